"""Costs: of a word by what is heard of it, and of the steps ahead."""

from trellisway.errors import NoSigns
from trellisway.schemes import rooms, sent_at, step
from trellisway.sending import first_rooms, is_ring, places_of, sent, steps_of
from trellisway.signs import sign_of


def check_heard(scheme, size, heard):
    # The places are asked first, so that a length without a way is refused ahead of wrong signs.
    places = places_of(scheme, size)
    if len(heard) != len(places):
        raise NoSigns("there are not as many heard signs as are sent")


def signs_cost(signs, bits):
    return sum([sign.cost(bit) for sign, bit in zip(signs, bits)])


def cost(scheme, word, heard):
    check_heard(scheme, len(word), heard)
    return signs_cost([sign_of(told) for told in heard], sent(scheme, word))


def signs_by_step(scheme, size, heard):
    found = [[] for number in range(steps_of(scheme, size))]
    for number, told in zip(places_of(scheme, size), heard):
        found[number].append(sign_of(told))
    return found


# A move is a step with its price: a tuple (the room that it leads to, what its signs cost).


def move(scheme, number, signs, room, bit):
    led = step(scheme, room, bit)
    return (led[0], signs_cost(signs, sent_at(scheme, number, led[1])))


def moves_from(scheme, number, signs, room, bits):
    return [move(scheme, number, signs, room, bit) for bit in bits]


# All moves, by the step's number, the room and the bit. They don't hang on where a way begins, so in a ring they are
# made once for all beginnings.


def moves(scheme, size, heard):
    check_heard(scheme, size, heard)
    found = []
    for number, signs in enumerate(signs_by_step(scheme, size, heard)):
        bits = (0, 1) if number < size else (0,)
        found.append([moves_from(scheme, number, signs, room, bits) for room in range(rooms(scheme))])
    return found


def end_costs(scheme, start):
    if scheme[3] == "open":
        return [0] * rooms(scheme)
    end = start if is_ring(scheme) else 0
    return [0 if room == end else None for room in range(rooms(scheme))]


def cost_by(taken, behind):
    rest = behind[taken[0]]
    return None if rest is None else taken[1] + rest


def least_by(choices, behind):
    found = [cost_by(taken, behind) for taken in choices]
    return min([one for one in found if one is not None], default=None)


def ahead_by(steps, ends):
    table = [ends]
    for choices_by_room in reversed(steps):
        behind = table[-1]
        table.append([least_by(choices, behind) for choices in choices_by_room])
    return list(reversed(table))


def ahead(scheme, size, heard, start=0):
    return ahead_by(moves(scheme, size, heard), end_costs(scheme, start))


def ahead_by_start(scheme, steps):
    tables = {}
    for start in first_rooms(scheme):
        tables[start] = ahead_by(steps, end_costs(scheme, start))
    return tables
