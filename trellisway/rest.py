"""The fewest ones that ways from node to node send, and the rest for some ones."""

from trellisway.quiet import paces_of, quiet


def ones_by(pace, behind):
    return pace[1] + behind[pace[2]]


def best_pace(paces, behind):
    # There is always one: a step with 1 never leads to room 0.
    return min(paces, key=lambda pace: ones_by(pace, behind))


def no_ones(paces_by_node):
    found = {}
    for node in paces_by_node:
        found[node] = 0
    return found


def fewest_before(paces_by_node, behind):
    found = {}
    for node, paces in paces_by_node.items():
        found[node] = ones_by(best_pace(paces, behind), behind)
    return found


def fewest_by(paces_by_node, steps):
    found = [no_ones(paces_by_node)]
    while len(found) <= steps:
        found.append(fewest_before(paces_by_node, found[-1]))
    return found


def fewest(scheme, steps):
    return fewest_by(paces_of(scheme), steps)


def bits_from(first, paces_by_node, table):
    bits = []
    node = first
    for behind in reversed(table[:-1]):
        pace = best_pace(paces_by_node[node], behind)
        bits.append(pace[0])
        node = pace[2]
    return bits


def sparse(scheme, steps):
    paces_by_node = paces_of(scheme)
    if len(paces_by_node) == 0:
        return None
    table = fewest_by(paces_by_node, steps)
    least = min([(ones, node) for node, ones in table[-1].items()])
    return (least[0], least[1], bits_from(least[1], paces_by_node, table))


def rest(scheme, ones):
    paces_by_node = paces_of(scheme)
    if ones <= 0 or len(paces_by_node) == 0:
        return 0
    # On a quiet ring a way goes on for ever and sends no 1; where there is none, the loop below ends.
    if quiet(scheme) is not None:
        return None
    steps = 0
    behind = no_ones(paces_by_node)
    while min(behind.values()) < ones:
        behind = fewest_before(paces_by_node, behind)
        steps += 1
    return steps
