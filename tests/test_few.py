import unittest

import reference
from trellisway.costs import cost
from trellisway.few import few
from trellisway.nearest import nearest

SIXTY = reference.SIXTY


def binary(number, size):
    return [int(figure) for figure in format(number, "b").zfill(size)] if size else []


class ByHand(unittest.TestCase):
    def test_lesser_costs_first(self):
        for ending in reference.ENDINGS:
            scheme = (0, (1,), ((1,),), ending)
            heard = [("soft", 0, 4), ("soft", 3, 0)]
            expected = [(0, [0, 1]), (3, [0, 0]), (4, [1, 1]), (7, [1, 0])]
            for most in range(4):
                self.assertEqual(few(scheme, 2, heard, most), expected[:most])
            for most in (4, 5, 100, 10**60):
                self.assertEqual(few(scheme, 2, heard, most), expected)

    def test_of_equal_costs_the_first_words_first(self):
        scheme = (1, (1,), ((1,),), "open")
        heard = [("clear", 1), ("gap",), ("clear", 1)]
        expected = [
            (0, [1, 0, 1]), (0, [1, 1, 1]), (1, [0, 0, 1]), (1, [0, 1, 1]),
            (1, [1, 0, 0]), (1, [1, 1, 0]), (2, [0, 0, 0]), (2, [0, 1, 0]),
        ]
        self.assertEqual(few(scheme, 3, heard, 8), expected)

    def test_two_where_it_is_not_said(self):
        scheme = (1, (1,), ((1,),), "open")
        self.assertEqual(few(scheme, 2, [("clear", 1), ("clear", 0)]), [(0, [1, 0]), (1, [0, 0])])
        self.assertEqual(few(scheme, 0, []), [(0, [])])

    def test_the_length_0(self):
        for reach in reference.REACHES:
            for ending in ("open", "ended") if reach else reference.ENDINGS:
                scheme = (reach, (1,), ((1,),), ending)
                heard = [("soft", -5, 9)] * reference.sent_count(scheme, 0)
                self.assertEqual(few(scheme, 0, heard, 0), [])
                for most in (1, 2, 7):
                    self.assertEqual(few(scheme, 0, heard, most), [(-5 * len(heard), [])])

    def test_one_bit(self):
        for ending in reference.ENDINGS:
            scheme = (1, (1,), ((1,),), ending)
            heard = [("soft", -SIXTY, -SIXTY - 1)] + [("gap",)] * (ending == "ended")
            self.assertEqual(few(scheme, 1, heard, 3), [(-SIXTY - 1, [1]), (-SIXTY, [0])])

    def test_most_by_name(self):
        scheme = (1, (3,), ((1,),), "ring")
        heard = [("clear", 1), ("gap",), ("soft", 2, -2)]
        for most in (0, 1, 2, 5, 8, 9):
            self.assertEqual(few(scheme, 3, heard, most=most), few(scheme, 3, heard, most))
        self.assertEqual(few(scheme, 3, heard), few(scheme, 3, heard, most=2))
        self.assertEqual(few(scheme=scheme, size=3, heard=heard, most=1), few(scheme, 3, heard, 1))


class AgainstAllWords(unittest.TestCase):
    def test_small_lengths(self):
        for scheme in reference.schemes():
            for size in reference.sizes_of(scheme, 5):
                for heard in reference.hearings(reference.sent_count(scheme, size), 21):
                    expected = reference.ranked(scheme, size, heard)
                    self.assertEqual(few(scheme, size, heard), expected[:2])
                    count = len(expected)
                    for most in (0, 1, 2, 3, 5, count - 1, count, count + 1, 10 * count, 10**60):
                        self.assertEqual(few(scheme, size, heard, most), expected[:most], (scheme, heard, most))

    def test_longer_ones(self):
        for scheme in reference.schemes(reaches=(1, 3, 4)):
            for heard in reference.hearings(reference.sent_count(scheme, 8), 22):
                expected = reference.ranked(scheme, 8, heard)
                for most in (7, 40, 256):
                    self.assertEqual(few(scheme, 8, heard, most), expected[:most])


class SixtyBits(unittest.TestCase):
    def test_against_the_cheapest_ends_of_ways(self):
        for scheme in reference.schemes():
            hearings = list(reference.hearings(reference.sent_count(scheme, 60), 23))
            for heard in hearings[2:4] + hearings[6:]:
                told = few(scheme, 60, heard, 3)
                self.assertEqual(told, reference.next_words(scheme, 60, heard, 3), scheme)
                self.assertEqual(told[0], nearest(scheme, 60, heard))
                self.assertEqual(told[:2], few(scheme, 60, heard))
                self.assertEqual([one for one, _ in told], [cost(scheme, word, heard) for _, word in told])

    def test_words_in_the_order_of_numbers(self):
        # The tap 1 sends the bit itself; each bit costs more than all behind it.
        for reach in reference.REACHES:
            for ending in reference.ENDINGS:
                scheme = (reach, (1,), ((1,),), ending)
                heard = [("soft", 0, 2 ** (59 - place)) for place in range(60)]
                heard += [("clear", 0)] * (reference.sent_count(scheme, 60) - 60)
                expected = [(number, binary(number, 60)) for number in range(33)]
                self.assertEqual(few(scheme, 60, heard, 33), expected, scheme)

    def test_all_cost_as_much(self):
        for scheme in reference.schemes():
            heard = [("gap",)] * reference.sent_count(scheme, 60)
            expected = [(0, binary(number, 60)) for number in range(9)]
            self.assertEqual(few(scheme, 60, heard, 9), expected, scheme)

    def test_a_most_of_some_hundred_in_a_ring(self):
        scheme = (4, (31, 21), ((1, 1),), "ring")
        heard = list(reference.hearings(120, 24))[3]
        told = few(scheme, 60, heard, 300)
        self.assertEqual(len(told), 300)
        self.assertEqual(told, sorted(told))
        self.assertEqual(len({tuple(word) for _, word in told}), 300)
        self.assertEqual([one for one, _ in told], [cost(scheme, word, heard) for _, word in told])
        self.assertEqual(told[:40], few(scheme, 60, heard, 40))


class Kinds(unittest.TestCase):
    def test_a_list_of_tuples(self):
        for scheme in reference.schemes():
            for heard in reference.hearings(reference.sent_count(scheme, 4), 25):
                told = few(scheme, 4, heard, 20)
                self.assertIs(type(told), list)
                self.assertEqual(len(told), 16)
                for one in told:
                    self.assertIs(type(one), tuple)
                    self.assertEqual(len(one), 2)
                    self.assertIs(type(one[0]), int)
                    self.assertIs(type(one[1]), list)
                    self.assertEqual([type(bit) for bit in one[1]], [int] * 4)

    def test_told_lists_are_the_askers_own(self):
        for scheme in reference.schemes():
            heard = [("clear", 1)] * reference.sent_count(scheme, 5)
            first = few(scheme, 5, heard, 6)
            kept = [(one, list(word)) for one, word in first]
            self.assertEqual(len({id(word) for _, word in first}), 6)
            for _, word in first:
                word[0] = 7
                word.append(9)
            first.pop()
            self.assertEqual(few(scheme, 5, heard, 6), kept)
            few(scheme, 5, heard, 0).append(1)
            self.assertEqual(few(scheme, 5, heard, 0), [])

    def test_told_lists_stay_when_the_heard_signs_change(self):
        for scheme in reference.schemes():
            heard = [("clear", 1)] * reference.sent_count(scheme, 5)
            told = few(scheme, 5, heard, 6)
            kept = [(one, list(word)) for one, word in told]
            heard.clear()
            self.assertEqual(told, kept)


if __name__ == "__main__":
    unittest.main()
