"""Sending: the way of a word through a scheme, and what is sent on it."""

from trellisway.errors import NoWord
from trellisway.schemes import rooms, sent_at, step


def is_ring(scheme):
    return scheme[3] == "ring"


def check_size(scheme, size):
    if is_ring(scheme) and size < scheme[0]:
        raise NoWord("in a ring a word has at least as many bits as the reach")


def bits_behind(scheme):
    return scheme[0] if scheme[3] == "ended" else 0


def bits_of(scheme, word):
    check_size(scheme, len(word))
    return list(word) + [0] * bits_behind(scheme)


def first_room(scheme, word):
    room = 0
    if is_ring(scheme):
        for bit in word[len(word) - scheme[0] :]:
            room = 2 * room + bit
    return room


def first_rooms(scheme):
    return list(range(rooms(scheme))) if is_ring(scheme) else [0]


def rooms_of(scheme, word):
    bits = bits_of(scheme, word)
    way = [first_room(scheme, word)]
    for bit in bits:
        way.append(step(scheme, way[-1], bit)[0])
    return way


def sent(scheme, word):
    way = rooms_of(scheme, word)
    found = []
    for number, bit in enumerate(bits_of(scheme, word)):
        signs = step(scheme, way[number], bit)[1]
        found.extend(sent_at(scheme, number, signs))
    return found


def steps_of(scheme, size):
    check_size(scheme, size)
    return size + bits_behind(scheme)


def places_of(scheme, size):
    # How many signs a step sends hangs on its number alone, so the signs of any step will do.
    signs = step(scheme, 0, 0)[1]
    places = []
    for number in range(steps_of(scheme, size)):
        places.extend([number] * len(sent_at(scheme, number, signs)))
    return places
