import unittest

import reference
from trellisway.costs import cost
from trellisway.nearest import nearest
from trellisway.sending import sent

SIXTY = reference.SIXTY
USUAL = (2, (7, 5), ((1, 1), (1, 0)))


class ByHand(unittest.TestCase):
    def test_one_wrong_sign(self):
        scheme = USUAL + ("ended",)
        self.assertEqual(sent(scheme, [1, 0, 1]), [1, 1, 1, 0, 0, 1, 1, 1])
        heard = [("clear", bit) for bit in (1, 1, 1, 0, 1, 1, 1, 1)]
        self.assertEqual(nearest(scheme, 3, heard), (1, [1, 0, 1]))

    def test_of_equal_costs_the_first_word(self):
        for reach in (0, 1):
            for ending in reference.ENDINGS:
                scheme = (reach, (1,), ((1,), (0,)), ending)
                # The tap 1 sends the bit itself, at even steps alone.
                told = [("soft", 2, 2), ("clear", 1)]
                heard = told + [("clear", 0)] * (reference.sent_count(scheme, 4) - 2)
                self.assertEqual(nearest(scheme, 4, heard), (2, [0, 0, 1, 0]), scheme)

    def test_of_equal_costs_in_a_ring_the_first_word_of_all_starts(self):
        # Sent is 1 where a bit is unlike the one ahead of it, so a word and its counterpart are sent alike.
        scheme = (1, (3,), ((1,),), "ring")
        heard = [("clear", 1), ("clear", 1), ("clear", 0)]
        self.assertEqual(sent(scheme, [0, 1, 1]), [1, 1, 0])
        self.assertEqual(sent(scheme, [1, 0, 0]), [1, 1, 0])
        self.assertEqual(nearest(scheme, 3, heard), (0, [0, 1, 1]))
        self.assertEqual(nearest(scheme, 3, [("clear", 0)] * 3), (0, [0, 0, 0]))

    def test_gaps_alone(self):
        for scheme in reference.schemes():
            for size in list(reference.sizes_of(scheme, 3)) + [60]:
                heard = [("gap",)] * reference.sent_count(scheme, size)
                self.assertEqual(nearest(scheme, size, heard), (0, [0] * size))

    def test_nothing_is_sent(self):
        for reach in reference.REACHES:
            for ending in reference.ENDINGS:
                scheme = (reach, (1, 1), ((0, 0), (0, 0)), ending)
                for size in (reach, 5, 60):
                    self.assertEqual(nearest(scheme, size, []), (0, [0] * size))

    def test_the_length_0(self):
        for ending in reference.ENDINGS:
            self.assertEqual(nearest((0, (1,), ((1,),), ending), 0, []), (0, []))
        self.assertEqual(nearest(USUAL + ("open",), 0, []), (0, []))
        heard = [("clear", 1), ("soft", -7, 3), ("clear", 0)]
        self.assertEqual(nearest(USUAL + ("ended",), 0, heard), (-6, []))

    def test_costs_below_0_and_of_sixty_figures(self):
        for ending in reference.ENDINGS:
            scheme = (0, (1,), ((1,),), ending)
            heard = [("soft", -SIXTY, 1 - SIXTY), ("soft", 1 - SIXTY, -SIXTY), ("soft", SIXTY, SIXTY - 1)]
            self.assertEqual(nearest(scheme, 3, heard), (-SIXTY - 1, [0, 1, 1]))


class AgainstAllWords(unittest.TestCase):
    def test_small_lengths(self):
        for scheme in reference.schemes():
            for size in reference.sizes_of(scheme, 6):
                for seed in (0, 1):
                    for heard in reference.hearings(reference.sent_count(scheme, size), seed):
                        expected = reference.ranked(scheme, size, heard)[0]
                        self.assertEqual(nearest(scheme, size, heard), expected, (scheme, size, heard))

    def test_sixty_bits(self):
        for scheme in reference.schemes():
            for heard in reference.hearings(reference.sent_count(scheme, 60), 2):
                told = nearest(scheme, 60, heard)
                self.assertEqual([told], reference.next_words(scheme, 60, heard, 1), scheme)
                self.assertEqual(told[0], cost(scheme, told[1], heard))

    def test_what_was_sent_is_told_where_no_other_word_is_sent_alike(self):
        for ending in reference.ENDINGS:
            for reach in reference.REACHES:
                scheme = (reach, (1, (2 << reach) - 1), ((1, 1),), ending)
                for word in reference.long_words(scheme, 7):
                    heard = [("clear", sign) for sign in sent(scheme, word)]
                    self.assertEqual(nearest(scheme, len(word), heard), (0, word))


class Kinds(unittest.TestCase):
    def test_a_tuple_of_a_whole_number_and_a_list_of_bits(self):
        for scheme in reference.schemes():
            for heard in reference.hearings(reference.sent_count(scheme, 5), 3):
                told = nearest(scheme, 5, heard)
                self.assertIs(type(told), tuple)
                self.assertEqual(len(told), 2)
                self.assertIs(type(told[0]), int)
                self.assertIs(type(told[1]), list)
                self.assertEqual([type(bit) for bit in told[1]], [int] * 5)

    def test_the_told_word_is_the_askers_own(self):
        for scheme in reference.schemes():
            heard = [("clear", 1)] * reference.sent_count(scheme, 5)
            least, word = nearest(scheme, 5, heard)
            kept = list(word)
            word[0] = 7
            word.append(9)
            self.assertEqual(nearest(scheme, 5, heard), (least, kept))

    def test_the_told_word_stays_when_the_heard_signs_change(self):
        for scheme in reference.schemes():
            heard = [("clear", 1)] * reference.sent_count(scheme, 5)
            told = nearest(scheme, 5, heard)
            kept = (told[0], list(told[1]))
            heard.clear()
            self.assertEqual(told, kept)


if __name__ == "__main__":
    unittest.main()
