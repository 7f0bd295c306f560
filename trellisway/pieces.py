"""Beginnings: what is kept of one for each room, and what is settled by it."""

from trellisway.costs import moves
from trellisway.schemes import rooms


def opened(scheme):
    # All steps of a beginning lie within the word, so in an ended scheme, too, no 0 is done behind them.
    return (scheme[0], scheme[1], scheme[2], "open")


def kept_at_first(scheme):
    return [(0, []) if room == 0 else None for room in range(rooms(scheme))]


def better(found, other):
    # Of equal costs the lesser list of bits is the first word.
    return other if found is None else min(found, other)


# One way for each room is enough: whatever comes behind, it comes behind all ways to this room alike.


def kept_on(known, choices_by_room):
    longer = [None] * len(known)
    for found, choices in zip(known, choices_by_room):
        if found is not None:
            for bit, taken in enumerate(choices):
                led = taken[0]
                longer[led] = better(longer[led], (found[0] + taken[1], found[1] + [bit]))
    return longer


def kept(scheme, steps, heard):
    known = kept_at_first(scheme)
    for choices_by_room in moves(opened(scheme), steps, heard):
        known = kept_on(known, choices_by_room)
    return known


def begun_alike(word, other):
    found = []
    for bit, beside in zip(word, other):
        if bit != beside:
            break
        found.append(bit)
    return found


def settled(scheme, steps, heard):
    words = [found[1] for found in kept(scheme, steps, heard) if found is not None]
    alike = words[0]
    for word in words:
        alike = begun_alike(alike, word)
    return alike
