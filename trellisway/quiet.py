"""Quiet ways: nodes, the steps between them, rings of quiet steps, and ranks."""

from trellisway.schemes import rooms, sent_at, step


def nodes_of(scheme):
    found = []
    for phase in range(len(scheme[2])):
        found.extend([(phase, room) for room in range(1, rooms(scheme))])
    return found


# A pace is a step from node to node: a tuple (bit, how many 1 it sends, the node that it leads to).


def paces_from(scheme, node):
    phase = node[0]
    found = []
    for bit in (0, 1):
        led = step(scheme, node[1], bit)
        if led[0] != 0:
            ones = sum(sent_at(scheme, phase, led[1]))
            found.append((bit, ones, ((phase + 1) % len(scheme[2]), led[0])))
    return found


def paces_of(scheme):
    found = {}
    for node in nodes_of(scheme):
        found[node] = paces_from(scheme, node)
    return found


def quiet_leads(scheme):
    found = {}
    for node, paces in paces_of(scheme).items():
        found[node] = [pace[2] for pace in paces if pace[1] == 0]
    return found


def all_ranked(nodes, ranked):
    return all([node in ranked for node in nodes])


def ready_nodes(leads, ranked):
    left = [node for node in leads if node not in ranked]
    return [node for node in left if all_ranked(leads[node], ranked)]


# A node is ranked as soon as all are that its quiet steps lead to. So the nodes of a quiet ring, and those that lead
# to one, are never ranked, and all others are.


def ranks_by(leads):
    ranked = {}
    ready = ready_nodes(leads, ranked)
    while len(ready) > 0:
        for node in ready:
            ranked[node] = 1 + max([ranked[led] for led in leads[node]], default=-1)
        ready = ready_nodes(leads, ranked)
    return ranked


def ranks(scheme):
    leads = quiet_leads(scheme)
    ranked = ranks_by(leads)
    return ranked if all_ranked(leads, ranked) else None


def ring_from(first, leads, ranked):
    # A quiet step leads from each node without a rank to one without, so the way goes on until it meets itself.
    way = []
    node = first
    while node not in way:
        way.append(node)
        node = [led for led in leads[node] if led not in ranked][0]
    return way[way.index(node) :]


def quiet(scheme):
    leads = quiet_leads(scheme)
    ranked = ranks_by(leads)
    left = [node for node in leads if node not in ranked]
    return ring_from(left[0], leads, ranked) if len(left) > 0 else None
