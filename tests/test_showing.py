import copy
import random
import unittest

import reference
from trellisway.reading import read_heard, read_places, read_scheme, read_word
from trellisway.showing import shown_heard, shown_places, shown_scheme, shown_word

SIXTY = reference.SIXTY


class Words(unittest.TestCase):
    def test_by_hand(self):
        self.assertEqual(shown_word([]), "-")
        self.assertEqual(shown_word([0]), "0")
        self.assertEqual(shown_word([0, 1, 1, 0]), "0110")
        self.assertEqual(shown_word([1] * 60), "1" * 60)

    def test_what_is_shown_reads_as_the_same(self):
        for size in range(8):
            for word in reference.all_words(size):
                self.assertEqual(read_word(shown_word(word)), word)
        for size in (59, 60, 61, 400):
            word = [random.Random(size).randrange(2) for _ in range(size)]
            self.assertEqual(read_word(shown_word(word)), word)


class Schemes(unittest.TestCase):
    def test_by_hand(self):
        shown = shown_scheme((2, (7, 5), ((1, 1), (1, 0)), "ended"))
        self.assertEqual(shown, "reach 2 taps 7 5 rows 11 10 ended")
        self.assertEqual(shown_scheme((0, (0,), ((0,),), "open")), "reach 0 taps 0 rows 0 open")
        scheme = (4, (31, 0, 10, 9), ((1, 1, 0, 1),) * 6, "ring")
        self.assertEqual(shown_scheme(scheme), "reach 4 taps 31 0 10 9 rows 1101 1101 1101 1101 1101 1101 ring")

    def test_what_is_shown_reads_as_the_same(self):
        for scheme in reference.schemes() + list(reference.random_schemes(81, 20)):
            self.assertEqual(read_scheme(shown_scheme(scheme)), scheme)


class Heard(unittest.TestCase):
    def test_by_hand(self):
        self.assertEqual(shown_heard([]), "")
        self.assertEqual(shown_heard([("gap",)]), "?")
        self.assertEqual(shown_heard([("clear", 0), ("clear", 1), ("gap",), ("soft", -3, 0)]), "0 1 ? -3/0")
        self.assertEqual(shown_heard([("soft", SIXTY, -SIXTY)] * 2), f"{SIXTY}/-{SIXTY} {SIXTY}/-{SIXTY}")

    def test_what_is_shown_reads_as_the_same(self):
        for count in (0, 1, 2, 9, 60, 400):
            for seed in range(9):
                for heard in reference.hearings(count, seed):
                    self.assertEqual(read_heard(shown_heard(heard)), heard)


class Places(unittest.TestCase):
    def test_by_hand(self):
        self.assertEqual(shown_places([]), "-")
        self.assertEqual(shown_places([0]), "0")
        self.assertEqual(shown_places([0, 3, 12, SIXTY]), f"0,3,12,{SIXTY}")

    def test_what_is_shown_reads_as_the_same(self):
        chance = random.Random(82)
        for count in (0, 1, 2, 3, 40, 400):
            for end in (400, 10**20, SIXTY + 1):
                places = sorted({chance.randrange(end) for _ in range(count)})
                self.assertEqual(read_places(shown_places(places)), places)


class AllOfThem(unittest.TestCase):
    CASES = (
        (shown_word, [0, 1, 1]), (shown_word, []), (shown_scheme, (1, (3, 1), ((1, 0),), "ring")),
        (shown_heard, [("gap",), ("clear", 1), ("soft", 2, 3)]), (shown_heard, []), (shown_places, [0, 4]),
        (shown_places, []),
    )

    def test_texts_are_told_and_what_is_handed_in_stays(self):
        for show, found in self.CASES:
            before = copy.deepcopy(found)
            self.assertIs(type(show(found)), str)
            self.assertEqual(found, before)

    def test_by_name(self):
        self.assertEqual(shown_word(word=[1]), "1")
        self.assertEqual(shown_scheme(scheme=(0, (1,), ((1,),), "open")), "reach 0 taps 1 rows 1 open")
        self.assertEqual(shown_heard(heard=[("gap",)]), "?")
        self.assertEqual(shown_places(places=[4]), "4")


if __name__ == "__main__":
    unittest.main()
