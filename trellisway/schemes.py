"""Schemes: which tuples are schemes, their rooms and steps, and what is sent of a step."""

MOST_REACH = 4
MOST_TAPS = 4
MOST_ROWS = 6
ENDINGS = ("open", "ended", "ring")


def is_whole(found):
    return isinstance(found, int) and found is not True and found is not False


# is_scheme is asked of anything, and a class under tuple, int or str may answer len, [..], < or == in its own
# way, or raise. So the three defs below take what is really held, in ways that ask nothing of such a class.


def plain_parts(found):
    if isinstance(found, tuple):
        return () + found
    # No tuple within a scheme is empty, so the empty one can stand for what is no tuple.
    return ()


def plain_number(found, end):
    if is_whole(found):
        # A loop of one turn at most: the first number of the range is the one that found holds.
        for number in range(found, end):
            return number if number >= 0 else None
    return None


def plain_text(found):
    return "".join([found]) if isinstance(found, str) else ""


def all_below(parts, end):
    return all([plain_number(part, end) is not None for part in parts])


def is_row(found, size):
    bits = plain_parts(found)
    return len(bits) == size and all_below(bits, 2)


def is_scheme(found):
    parts = plain_parts(found)
    if len(parts) != 4:
        return False
    reach = plain_number(parts[0], MOST_REACH + 1)
    taps = plain_parts(parts[1])
    rows = plain_parts(parts[2])
    if reach is None or not 1 <= len(taps) <= MOST_TAPS or not 1 <= len(rows) <= MOST_ROWS:
        return False
    return (
        all_below(taps, 2 * rooms_at(reach))
        and all([is_row(row, len(taps)) for row in rows])
        and plain_text(parts[3]) in ENDINGS
    )


def rooms_at(reach):
    return 1 << reach


def rooms(scheme):
    return rooms_at(scheme[0])


def parity(number):
    left = number
    odd = 0
    while left > 0:
        odd = odd ^ (left & 1)
        left = left // 2
    return odd


def step(scheme, room, bit):
    window = 2 * room + bit
    signs = [parity(window & tap) for tap in scheme[1]]
    return (window % rooms(scheme), tuple(signs))


def sent_at(scheme, number, signs):
    rows = scheme[2]
    row = rows[number % len(rows)]
    return tuple([sign for sign, chosen in zip(signs, row) if chosen == 1])
