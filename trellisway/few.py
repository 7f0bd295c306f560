"""The nearest word and the next ones behind it."""

from trellisway.costs import ahead_by_start, moves

# A track is a tuple (start, room, spent): where a way began, where it is now, what its steps have cost so far.
# A beginning is a tuple (least, bits, tracks): the least that a word with these first bits costs, and the tracks of
# all ways with these first bits that can still be a word's way. In an open or ended scheme there is one; in a ring
# there may be one for each room, as the bits to come settle where the way began.


def cost_of_track(track, tables, number):
    rest = tables[track[0]][number][track[1]]
    return None if rest is None else track[2] + rest


def beginning(bits, tracks, tables):
    number = len(bits)
    alive = [track for track in tracks if cost_of_track(track, tables, number) is not None]
    return (min([cost_of_track(track, tables, number) for track in alive]), bits, alive)


def track_on(track, bit, choices_by_room):
    taken = choices_by_room[track[1]][bit]
    return (track[0], taken[0], track[2] + taken[1])


def beginning_on(begun, bit, choices_by_room, tables):
    tracks = [track_on(track, bit, choices_by_room) for track in begun[2]]
    return beginning(begun[1] + [bit], tracks, tables)


def first_ones(found, most):
    return sorted(found, key=lambda begun: (begun[0], begun[1]))[:most]


def few(scheme, size, heard, most=2):
    steps = moves(scheme, size, heard)
    tables = ahead_by_start(scheme, steps)
    found = [beginning([], [(start, start, 0) for start in tables], tables)]
    for choices_by_room in steps[:size]:
        longer = []
        for begun in found:
            longer.append(beginning_on(begun, 0, choices_by_room, tables))
            longer.append(beginning_on(begun, 1, choices_by_room, tables))
        # No asked word is lost by this: a beginning left out has as many as are asked for ahead of it, and each of
        # those begins a word that comes ahead of every word of the one left out.
        found = first_ones(longer, most)
    return [(begun[0], begun[1]) for begun in first_ones(found, most)]
