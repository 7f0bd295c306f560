import unittest

import reference
from trellisway.apart import apart
from trellisway.errors import NoWord

USUAL = (2, (7, 5), ((1, 1),))


class ByHand(unittest.TestCase):
    def test_ended(self):
        # A single 1 is sent as 11 10 11, wherever it is, and nothing is sent with fewer 1.
        for size in (1, 2, 3, 8, 60, 64):
            self.assertEqual(apart(USUAL + ("ended",), size), (5, [0] * (size - 1) + [1]))

    def test_open(self):
        # The last bit is sent as 11 behind noughts, and no bit is sent as less.
        for size in (1, 2, 3, 8, 60, 64):
            self.assertEqual(apart(USUAL + ("open",), size), (2, [0] * (size - 1) + [1]))

    def test_ring(self):
        scheme = USUAL + ("ring",)
        # Of two bits the way with 0 1 begins in room 1 and is sent as 10 00, that with 1 1 as 10 10.
        self.assertEqual(apart(scheme, 2), (1, [0, 1]))
        self.assertEqual(apart(scheme, 60), (5, [0] * 59 + [1]))

    def test_of_equal_distances_the_first_word(self):
        for ending in reference.ENDINGS:
            # The tap 1 sends the bit itself.
            self.assertEqual(apart((2, (1,), ((1,),), ending), 5), (1, [0, 0, 0, 0, 1]))
            # Only the bits of even steps are sent, so of the words that are sent as noughts this is the first.
            self.assertEqual(apart((2, (1,), ((1,), (0,)), ending), 5), (0, [0, 0, 0, 1, 0]))

    def test_the_farther_word_may_come_first(self):
        # Sent is each bit and, of steps 2, 5, .. twice more, so the last bit counts three and the one ahead but one.
        scheme = (0, (1, 1, 1), ((1, 0, 0), (1, 0, 0), (1, 1, 1)), "open")
        self.assertEqual(apart(scheme, 3), (1, [0, 1, 0]))
        self.assertEqual(apart(scheme, 6), (1, [0, 0, 0, 0, 1, 0]))

    def test_distances_of_0(self):
        for reach in reference.REACHES:
            for ending in reference.ENDINGS:
                for size in (max(reach, 1), 5, 60):
                    word = [0] * (size - 1) + [1]
                    self.assertEqual(apart((reach, (1, 1), ((0, 0), (0, 0)), ending), size), (0, word))
                    self.assertEqual(apart((reach, (0, 0), ((1, 1),), ending), size), (0, word))

    def test_a_word_and_its_counterpart_are_sent_alike(self):
        scheme = (1, (3,), ((1,),), "ring")
        for size in (1, 2, 5, 60):
            self.assertEqual(apart(scheme, size), (0, [1] * size))

    def test_the_length_0(self):
        for reach in reference.REACHES:
            for ending in ("open", "ended") if reach else reference.ENDINGS:
                self.assertIsNone(apart((reach, (1,), ((1,),), ending), 0))
                self.assertIsNone(apart((reach, (1,), ((0,),), ending), 0))


class AgainstAllWords(unittest.TestCase):
    def test_small_lengths(self):
        for scheme in reference.schemes():
            for size in reference.sizes_of(scheme, 6):
                if size > 0:
                    self.assertEqual(apart(scheme, size), reference.distance_by_pairs(scheme, size), (scheme, size))

    def test_many_schemes(self):
        for scheme in reference.random_schemes(41, 4):
            for size in (max(scheme[0], 1), 5):
                self.assertEqual(apart(scheme, size), reference.distance_by_pairs(scheme, size), (scheme, size))


class LongWords(unittest.TestCase):
    def test_against_the_cheapest_ends_of_ways(self):
        for scheme in reference.schemes():
            for size in (31, 60):
                heard = [("clear", 0)] * reference.sent_count(scheme, size)
                noughts, told = reference.next_words(scheme, size, heard, 2)
                self.assertEqual(noughts, (0, [0] * size))
                self.assertEqual(apart(scheme, size), told, (scheme, size))

    def test_so_many_1_are_sent_of_the_word(self):
        for scheme in reference.random_schemes(42, 2):
            distance, word = apart(scheme, 60)
            self.assertEqual(len(word), 60)
            self.assertIn(1, word)
            self.assertEqual(sum(sign for _, sign in reference.sent_with_steps(scheme, word)), distance)


class Refusals(unittest.TestCase):
    def test_lengths_below_the_reach_in_a_ring(self):
        for scheme in reference.schemes(endings=("ring",)):
            for size in range(scheme[0]):
                reference.refused(self, NoWord, apart, scheme, size)

    def test_elsewhere_no_length_is_refused(self):
        for scheme in reference.schemes():
            for size in range(max(1, reference.least_size(scheme)), 6):
                self.assertEqual(len(apart(scheme, size)[1]), size)


class Kinds(unittest.TestCase):
    def test_kinds(self):
        for scheme in reference.schemes():
            told = apart(scheme, 5)
            self.assertIs(type(told), tuple)
            self.assertEqual([type(part) for part in told], [int, list])
            self.assertEqual([type(bit) for bit in told[1]], [int] * 5)

    def test_by_name(self):
        self.assertEqual(apart(scheme=USUAL + ("open",), size=3), apart(USUAL + ("open",), 3))

    def test_the_told_word_is_the_askers_own(self):
        for scheme in reference.schemes():
            distance, word = apart(scheme, 5)
            before = list(word)
            word[0] = 7
            word.append(9)
            self.assertEqual(apart(scheme, 5), (distance, before))


if __name__ == "__main__":
    unittest.main()
