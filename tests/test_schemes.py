import collections
import enum
import fractions
import unittest

from trellisway.schemes import is_scheme, rooms, sent_at, step

ENDINGS = ("open", "ended", "ring")
ROOMS = {0: 1, 1: 2, 2: 4, 3: 8, 4: 16}
USUAL = (2, (7, 5), ((1, 1), (1, 0)), "ended")


def with_part(scheme, place, part):
    return scheme[:place] + (part,) + scheme[place + 1 :]


def with_tap(scheme, place, tap):
    return with_part(scheme, 1, with_part(scheme[1], place, tap))


def with_bit(scheme, row, place, bit):
    return with_part(scheme, 2, with_part(scheme[2], row, with_part(scheme[2][row], place, bit)))


def end_schemes():
    for reach, count in ROOMS.items():
        for taps in (1, 4):
            for rows in (1, 6):
                for tap in (0, 2 * count - 1):
                    for bit in (0, 1):
                        for ending in ENDINGS:
                            yield (reach, (tap,) * taps, ((bit,) * taps,) * rows, ending)


class Odd:
    """Raises whatever it is asked."""

    def refuse(self, *others):
        raise RuntimeError("asked")

    __eq__ = __ne__ = __lt__ = __le__ = __gt__ = __ge__ = refuse
    __len__ = __iter__ = __getitem__ = __contains__ = __bool__ = refuse
    __hash__ = __int__ = __index__ = __str__ = __repr__ = __add__ = __radd__ = refuse


class AlwaysAlike:
    def __eq__(self, other):
        return True

    __hash__ = None


class OddInt(int):
    __eq__ = __ne__ = __lt__ = __le__ = __gt__ = __ge__ = Odd.refuse
    __hash__ = __bool__ = __int__ = __index__ = __add__ = __radd__ = Odd.refuse
    __sub__ = __rsub__ = __and__ = __rand__ = __rlshift__ = __lshift__ = __mul__ = __rmul__ = Odd.refuse


class OddText(str):
    __eq__ = __ne__ = __hash__ = __len__ = __iter__ = __contains__ = __str__ = __getitem__ = Odd.refuse


class OddTuple(tuple):
    __eq__ = __ne__ = __hash__ = __len__ = __iter__ = __contains__ = __getitem__ = __bool__ = Odd.refuse


class OneOfMany(enum.IntEnum):
    TWO = 2


class IsScheme(unittest.TestCase):
    def holds(self, found, note=None):
        self.assertIs(is_scheme(found), True, note or repr(found))

    def fails(self, found, note=None):
        self.assertIs(is_scheme(found), False, note or repr(found))

    def test_ordinary(self):
        self.holds(USUAL)
        self.holds((0, (1,), ((1,),), "open"))
        self.holds((3, (15, 0, 9), ((1, 0, 1), (0, 0, 0)), "ring"))
        self.holds((4, (31, 21, 1, 16), ((1, 1, 1, 1),), "open"))

    def test_every_end(self):
        for scheme in end_schemes():
            self.holds(scheme)

    def test_each_number_of_taps_and_rows(self):
        for taps in range(8):
            for rows in range(10):
                found = (2, (5,) * taps, ((1,) * taps,) * rows, "open")
                self.assertIs(is_scheme(found), 1 <= taps <= 4 and 1 <= rows <= 6, found)

    def test_reach_beyond_its_ends(self):
        for scheme in end_schemes():
            for reach in (-1, 5, 6, -4, 10**60, -(10**60)):
                self.fails(with_part(scheme, 0, reach))

    def test_taps_beyond_their_ends(self):
        for scheme in end_schemes():
            end = 2 * ROOMS[scheme[0]]
            for place in range(len(scheme[1])):
                for tap in (-1, end, end + 1, -end, 10**60, -(10**60)):
                    self.fails(with_tap(scheme, place, tap))

    def test_every_tap_within(self):
        for reach, count in ROOMS.items():
            for tap in range(-3, 2 * count + 3):
                found = (reach, (0, tap), ((1, 1),), "ring")
                self.assertIs(is_scheme(found), 0 <= tap < 2 * count, found)

    def test_bits_beyond_their_ends(self):
        for scheme in end_schemes():
            for row in range(len(scheme[2])):
                for place in range(len(scheme[1])):
                    for bit in (-1, 2, 10**60):
                        self.fails(with_bit(scheme, row, place, bit))

    def test_no_number_where_a_number_is_due(self):
        wrong = (True, False, None, 0.0, 1.0, "0", "1", "", (), (0,), [], [1], {}, b"1", 1j, fractions.Fraction(1))
        for number in wrong:
            for scheme in end_schemes():
                self.fails(with_part(scheme, 0, number))
                self.fails(with_tap(scheme, len(scheme[1]) - 1, number))
                self.fails(with_bit(scheme, len(scheme[2]) - 1, 0, number))

    def test_truths_at_each_place(self):
        for scheme in end_schemes():
            for truth in (True, False):
                for place in range(len(scheme[1])):
                    self.fails(with_tap(scheme, place, truth))
                    for row in range(len(scheme[2])):
                        self.fails(with_bit(scheme, row, place, truth))

    def test_too_few_or_too_many(self):
        for scheme in end_schemes():
            reach, taps, rows, ending = scheme
            self.fails((reach, (), rows, ending))
            self.fails((reach, (), ((),), ending))
            self.fails((reach, taps, (), ending))
            self.fails((reach, (0,) * 5, ((1,) * 5,), ending))
            self.fails((reach, taps, (rows[0],) * 7, ending))
            for row in range(len(rows)):
                for bits in (rows[row] + (1,), rows[row] + (0,), rows[row][1:], ()):
                    self.fails((reach, taps, with_part(rows, row, bits), ending))

    def test_taps_and_rows_of_unlike_sizes(self):
        self.fails((2, (7, 5), ((1,), (1, 0)), "ended"))
        self.fails((2, (7, 5), ((1, 1), (1, 0, 1)), "ended"))
        self.fails((2, (7,), ((1, 1), (1, 0)), "ended"))

    def test_lists_in_the_place_of_tuples(self):
        for scheme in end_schemes():
            reach, taps, rows, ending = scheme
            self.fails(list(scheme))
            self.fails((reach, list(taps), rows, ending))
            self.fails((reach, taps, list(rows), ending))
            for row in range(len(rows)):
                self.fails((reach, taps, with_part(rows, row, list(rows[row])), ending))

    def test_other_things_in_the_place_of_tuples(self):
        for wrong in (None, 0, 1, True, "", "11", "1", b"11", {}, {1: 1}, {1}, range(2), object()):
            self.fails(with_part(USUAL, 1, wrong))
            self.fails(with_part(USUAL, 2, wrong))
            self.fails(with_part(USUAL, 2, (wrong, (1, 0))))
            self.fails(with_part(USUAL, 2, ((1, 1), wrong)))

    def test_endings(self):
        wrong = ("", "Open", "OPEN", "open ", " open", "openended", "end", "rings", "closed", "o", "ring\n")
        others = (None, 0, 1, True, False, 2.5, b"open", ("open",), ["open"], {"open": 1}, {"ring"}, object())
        for scheme in end_schemes():
            for ending in wrong + others:
                self.fails(with_part(scheme, 3, ending))

    def test_a_part_more_or_fewer(self):
        for scheme in end_schemes():
            for more in (None, 0, "open", (), scheme):
                self.fails(scheme + (more,))
                self.fails((more,) + scheme)
            for place in range(4):
                self.fails(scheme[:place] + scheme[place + 1 :])
            self.fails(())
            self.fails(scheme[::-1])
            self.fails((scheme,))

    def test_no_tuple_at_all(self):
        around = []
        around.append(around)
        things = [None, True, False, 0, 1, -7, 10**60, 1.5, float("nan"), 2j, "", "open", b"", "reach 2 taps 7"]
        things += [{}, {0: 1}, [], [0], set(), frozenset(), range(4), object(), object, tuple, int, len, is_scheme]
        things += [around, iter(()), (part for part in USUAL), dict(enumerate(USUAL)), str(USUAL), unittest]
        for thing in things:
            self.fails(thing)

    def test_things_that_raise_when_asked(self):
        for thing in (Odd(), AlwaysAlike(), OddInt(7), OddText("what"), OddTuple(()), Odd):
            self.fails(thing, "by itself")
            for place in range(4):
                self.fails(with_part(USUAL, place, thing), "part")
            self.fails(with_tap(USUAL, 0, OddInt(8) if isinstance(thing, OddInt) else thing), "tap")
            self.fails(with_part(USUAL, 2, (thing,)), "row")
            self.fails(with_bit(USUAL, 1, 1, thing), "bit")

    def test_classes_under_pythons_own_count_as_what_they_hold(self):
        self.holds(OddTuple(USUAL), "tuple")
        self.fails(OddTuple(USUAL[:3]), "short tuple")
        odd = (OddInt(2), OddTuple((OddInt(7), OddInt(0))), OddTuple((OddTuple((OddInt(1), OddInt(0))),)))
        self.holds(OddTuple(odd + (OddText("ring"),)), "all parts")
        self.fails(odd + (OddText("rung"),), "ending")
        for number in (-1, 5, 10**60, -(10**60)):
            self.fails(with_part(USUAL, 0, OddInt(number)), "reach")
        named = collections.namedtuple("Named", "reach taps rows ending")
        self.holds(named(*USUAL))
        self.holds(with_part(USUAL, 0, OneOfMany.TWO))

    def test_nothing_is_changed(self):
        held = [1]
        found = (2, held, ((1,),), "open")
        self.fails(found)
        self.assertEqual(held, [1])
        self.assertEqual(found, (2, [1], ((1,),), "open"))

    def test_the_answer_follows_what_is_held_now(self):
        self.holds(USUAL)
        self.fails(with_part(USUAL, 0, 0))
        self.holds(USUAL)


class Rooms(unittest.TestCase):
    def test_how_many(self):
        for reach, count in ROOMS.items():
            for ending in ENDINGS:
                told = rooms((reach, (1, 0), ((1, 1), (0, 1)), ending))
                self.assertIs(type(told), int)
                self.assertEqual(told, count)


def powers_of(number):
    return [power for power in range(6) if (number >> power) % 2 == 1]


def expected_signs(taps, window):
    common = [[power for power in powers_of(tap) if power in powers_of(window)] for tap in taps]
    return tuple(len(powers) % 2 for powers in common)


class Step(unittest.TestCase):
    def test_by_hand(self):
        self.assertEqual(step(USUAL, 0, 0), (0, (0, 0)))
        self.assertEqual(step(USUAL, 0, 1), (1, (1, 1)))
        self.assertEqual(step(USUAL, 1, 0), (2, (1, 0)))
        self.assertEqual(step(USUAL, 1, 1), (3, (0, 1)))
        self.assertEqual(step(USUAL, 2, 0), (0, (1, 1)))
        self.assertEqual(step(USUAL, 2, 1), (1, (0, 0)))
        self.assertEqual(step(USUAL, 3, 0), (2, (0, 1)))
        self.assertEqual(step(USUAL, 3, 1), (3, (1, 0)))

    def test_the_newest_bit_counts_least(self):
        self.assertEqual(step((3, (1, 8), ((1, 1),), "open"), 0, 1), (1, (1, 0)))
        self.assertEqual(step((3, (1, 8), ((1, 1),), "open"), 4, 0), (0, (0, 1)))

    def test_every_room_with_both_bits(self):
        for reach, count in ROOMS.items():
            every = range(2 * count)
            for first in every:
                taps = (first, (first + 1) % len(every), len(every) - 1 - first)
                scheme = (reach, taps, ((1, 0, 0),), "open")
                self.assertTrue(is_scheme(scheme))
                for room in range(count):
                    for bit in (0, 1):
                        expected = ((2 * room + bit) % count, expected_signs(taps, 2 * room + bit))
                        self.assertEqual(step(scheme, room, bit), expected, (scheme, room, bit))

    def test_a_room_is_the_last_reach_bits(self):
        bits = [1, 0, 1, 1, 0, 0, 1, 0, 1, 1, 1, 0]
        for reach in ROOMS:
            scheme = (reach, (1,), ((1,),), "open")
            room = 0
            for number, bit in enumerate(bits):
                room = step(scheme, room, bit)[0]
                last = ([0] * reach + bits[: number + 1])[number + 1 :]
                self.assertEqual(room, int("0" + "".join(map(str, last)), 2))

    def test_one_sign_for_each_tap_whatever_rows_and_ending(self):
        for scheme in end_schemes():
            told = step(scheme, 0, 1)
            self.assertEqual(told[1], (scheme[1][0] % 2,) * len(scheme[1]))

    def test_kinds(self):
        for reach, count in ROOMS.items():
            scheme = (reach, (0, 1, 2 * count - 1, count), ((1, 1, 0, 1),), "ring")
            for room in range(count):
                for bit in (0, 1):
                    told = step(scheme, room, bit)
                    self.assertIs(type(told), tuple)
                    self.assertEqual(len(told), 2)
                    self.assertIs(type(told[0]), int)
                    self.assertIs(type(told[1]), tuple)
                    self.assertEqual([type(sign) for sign in told[1]], [int] * 4)


class SentAt(unittest.TestCase):
    ROWS = ((1, 1, 1), (0, 0, 0), (1, 0, 1), (0, 1, 0))
    PLACES = ((0, 1, 2), (), (0, 2), (1,))

    def test_numbers_below_at_and_beyond_the_rows(self):
        scheme = (2, (7, 5, 3), self.ROWS, "open")
        self.assertTrue(is_scheme(scheme))
        for number in list(range(13)) + [59, 60, 299, 300, 10**30 + 3]:
            for signs in ((0, 0, 0), (1, 0, 0), (1, 1, 0), (0, 1, 1), (1, 1, 1)):
                expected = tuple(signs[place] for place in self.PLACES[number % 4])
                self.assertEqual(sent_at(scheme, number, signs), expected, (number, signs))

    def test_one_row_for_every_number(self):
        scheme = (1, (3, 1), ((0, 1),), "ring")
        for number in range(5):
            self.assertEqual(sent_at(scheme, number, (1, 0)), (0,))
            self.assertEqual(sent_at(scheme, number, (0, 1)), (1,))

    def test_rows_all_one_and_all_nought(self):
        scheme = (1, (3, 1, 2, 2), ((1, 1, 1, 1), (0, 0, 0, 0)), "ended")
        for number in range(6):
            expected = (1, 0, 0, 1) if number % 2 == 0 else ()
            self.assertEqual(sent_at(scheme, number, (1, 0, 0, 1)), expected)

    def test_the_order_is_kept(self):
        scheme = (1, (3, 1, 2, 2), ((1, 1, 0, 1), (0, 1, 1, 1)), "open")
        self.assertEqual(sent_at(scheme, 0, (1, 0, 0, 0)), (1, 0, 0))
        self.assertEqual(sent_at(scheme, 0, (0, 0, 0, 1)), (0, 0, 1))
        self.assertEqual(sent_at(scheme, 1, (0, 1, 0, 0)), (1, 0, 0))
        self.assertEqual(sent_at(scheme, 3, (1, 0, 0, 1)), (0, 0, 1))

    def test_kinds(self):
        scheme = (2, (7, 5, 3), self.ROWS, "open")
        for number in range(8):
            told = sent_at(scheme, number, (1, 0, 1))
            self.assertIs(type(told), tuple)
            self.assertTrue(all(type(sign) is int for sign in told))

    def test_of_a_step(self):
        self.assertEqual(sent_at(USUAL, 0, step(USUAL, 1, 0)[1]), (1, 0))
        self.assertEqual(sent_at(USUAL, 1, step(USUAL, 1, 0)[1]), (1,))
        self.assertEqual(sent_at(USUAL, 2, step(USUAL, 3, 0)[1]), (0, 1))
        self.assertEqual(sent_at(USUAL, 5, step(USUAL, 3, 0)[1]), (0,))


if __name__ == "__main__":
    unittest.main()
