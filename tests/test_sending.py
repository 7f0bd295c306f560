import copy
import unittest

import reference
from trellisway.errors import NoWord
from trellisway.sending import bits_of, places_of, rooms_of, sent, steps_of

USUAL = (2, (7, 5), ((1, 1), (1, 0)))
OF_WORDS = (bits_of, rooms_of, sent)
OF_SIZES = (steps_of, places_of)


def cases():
    for scheme in reference.schemes():
        for size in reference.sizes_of(scheme, 5):
            for word in reference.all_words(size):
                yield scheme, word
        for word in reference.long_words(scheme, 11):
            yield scheme, word


class ByHand(unittest.TestCase):
    def test_open(self):
        scheme = USUAL + ("open",)
        self.assertEqual(bits_of(scheme, [1, 0, 1]), [1, 0, 1])
        self.assertEqual(rooms_of(scheme, [1, 0, 1]), [0, 1, 2, 1])
        self.assertEqual(sent(scheme, [1, 0, 1]), [1, 1, 1, 0, 0])
        self.assertEqual(steps_of(scheme, 3), 3)
        self.assertEqual(places_of(scheme, 3), [0, 0, 1, 2, 2])

    def test_ended(self):
        scheme = USUAL + ("ended",)
        self.assertEqual(bits_of(scheme, [1, 0, 1]), [1, 0, 1, 0, 0])
        self.assertEqual(rooms_of(scheme, [1, 0, 1]), [0, 1, 2, 1, 2, 0])
        self.assertEqual(sent(scheme, [1, 0, 1]), [1, 1, 1, 0, 0, 1, 1, 1])
        self.assertEqual(steps_of(scheme, 3), 5)
        self.assertEqual(places_of(scheme, 3), [0, 0, 1, 2, 2, 3, 4, 4])

    def test_ring(self):
        scheme = USUAL + ("ring",)
        self.assertEqual(bits_of(scheme, [1, 0, 1]), [1, 0, 1])
        self.assertEqual(rooms_of(scheme, [1, 0, 1]), [1, 3, 2, 1])
        self.assertEqual(sent(scheme, [1, 0, 1]), [0, 1, 0, 0, 0])
        self.assertEqual(steps_of(scheme, 3), 3)
        self.assertEqual(places_of(scheme, 3), [0, 0, 1, 2, 2])

    def test_a_ring_begins_with_the_newest_bit_least(self):
        scheme = (3, (15,), ((1,),), "ring")
        self.assertEqual(rooms_of(scheme, [1, 0, 0]), [4, 1, 2, 4])
        self.assertEqual(rooms_of(scheme, [0, 0, 1]), [1, 2, 4, 1])
        self.assertEqual(rooms_of(scheme, [1, 1, 0, 1, 1, 0]), [6, 5, 3, 6, 5, 3, 6])

    def test_the_empty_word(self):
        for reach in reference.REACHES:
            scheme = (reach, (1, 1), ((1, 1), (0, 1)))
            self.assertEqual(bits_of(scheme + ("open",), []), [])
            self.assertEqual(rooms_of(scheme + ("open",), []), [0])
            self.assertEqual(sent(scheme + ("open",), []), [])
            self.assertEqual((steps_of(scheme + ("open",), 0), places_of(scheme + ("open",), 0)), (0, []))
            self.assertEqual(bits_of(scheme + ("ended",), []), [0] * reach)
            self.assertEqual(rooms_of(scheme + ("ended",), []), [0] * (reach + 1))
            self.assertEqual(sent(scheme + ("ended",), []), [0] * [0, 2, 3, 5, 6][reach])
            self.assertEqual(steps_of(scheme + ("ended",), 0), reach)
            self.assertEqual(places_of(scheme + ("ended",), 0), [0, 0, 1, 2, 2, 3][: [0, 2, 3, 5, 6][reach]])

    def test_the_empty_word_in_a_ring_without_reach(self):
        scheme = (0, (1,), ((1,),), "ring")
        self.assertEqual((bits_of(scheme, []), rooms_of(scheme, []), sent(scheme, [])), ([], [0], []))
        self.assertEqual((steps_of(scheme, 0), places_of(scheme, 0)), (0, []))

    def test_without_reach_all_endings_are_alike(self):
        for ending in reference.ENDINGS:
            scheme = (0, (1, 0), ((1, 0), (1, 1)), ending)
            self.assertEqual(bits_of(scheme, [1, 1, 0]), [1, 1, 0])
            self.assertEqual(rooms_of(scheme, [1, 1, 0]), [0, 0, 0, 0])
            self.assertEqual(sent(scheme, [1, 1, 0]), [1, 1, 0, 0])
            self.assertEqual(places_of(scheme, 3), [0, 1, 1, 2])

    def test_rows_that_send_nothing(self):
        for ending in reference.ENDINGS:
            scheme = (1, (3, 1), ((0, 0),), ending)
            self.assertEqual((sent(scheme, [1, 0, 1]), places_of(scheme, 3)), ([], []))


class AgainstTheReference(unittest.TestCase):
    def test_bits_of(self):
        for scheme, word in cases():
            self.assertEqual(bits_of(scheme, word), reference.done(scheme, word), (scheme, word))

    def test_rooms_of(self):
        for scheme, word in cases():
            self.assertEqual(rooms_of(scheme, word), reference.way(scheme, word), (scheme, word))

    def test_where_ways_begin_and_end(self):
        for scheme, word in cases():
            way = rooms_of(scheme, word)
            self.assertEqual(len(way), steps_of(scheme, len(word)) + 1)
            if scheme[3] == "ring":
                self.assertEqual(way[0], way[-1])
            else:
                self.assertEqual(way[0], 0)
            if scheme[3] == "ended":
                self.assertEqual(way[-1], 0)

    def test_sent(self):
        for scheme, word in cases():
            expected = [sign for _, sign in reference.sent_with_steps(scheme, word)]
            self.assertEqual(sent(scheme, word), expected, (scheme, word))

    def test_steps_of(self):
        for scheme, word in cases():
            self.assertEqual(steps_of(scheme, len(word)), len(reference.done(scheme, word)))

    def test_places_of(self):
        for scheme, word in cases():
            told = places_of(scheme, len(word))
            self.assertEqual(told, [number for number, _ in reference.sent_with_steps(scheme, word)])
            self.assertEqual(len(told), len(sent(scheme, word)))
            self.assertEqual(told, sorted(told))

    def test_the_sum_of_two_words(self):
        for scheme in reference.schemes():
            words = [word for size in (4, 5) for word in reference.all_words(size)[::3]]
            words += [word for word in reference.long_words(scheme, 3) if len(word) == 60]
            for one in words:
                for other in words:
                    if len(one) == len(other):
                        unlike = [int(a != b) for a, b in zip(one, other)]
                        told = [int(a != b) for a, b in zip(sent(scheme, one), sent(scheme, other))]
                        self.assertEqual(sent(scheme, unlike), told, (scheme, one, other))


class Kinds(unittest.TestCase):
    def test_lists_of_whole_numbers(self):
        for scheme in reference.schemes():
            told = [ask(scheme, [1, 0, 1, 1, 0]) for ask in OF_WORDS] + [places_of(scheme, 5)]
            for one in told:
                self.assertIs(type(one), list)
                self.assertTrue(all(type(part) is int for part in one))
            self.assertIs(type(steps_of(scheme, 5)), int)

    def test_the_word_stays(self):
        for scheme, word in cases():
            before = copy.copy(word)
            for ask in OF_WORDS:
                ask(scheme, word)
                self.assertEqual(word, before)

    def test_told_lists_are_the_askers_own(self):
        for scheme in reference.schemes():
            word = [1, 0, 1, 1, 0]
            for ask, asked in [(ask, word) for ask in OF_WORDS] + [(places_of, 5)]:
                first = ask(scheme, asked)
                kept = list(first)
                first.append(7)
                first[0] = 9
                self.assertEqual(word, [1, 0, 1, 1, 0])
                self.assertEqual(ask(scheme, asked), kept)

    def test_told_lists_stay_when_the_word_changes(self):
        for scheme in reference.schemes():
            word = [1, 0, 1, 1, 0]
            told = [ask(scheme, word) for ask in OF_WORDS]
            kept = copy.deepcopy(told)
            word.clear()
            self.assertEqual(told, kept)


class ShortWords(unittest.TestCase):
    def test_shorter_than_reach_in_a_ring(self):
        for scheme in reference.schemes(endings=("ring",)):
            for size in range(scheme[0]):
                for word in reference.all_words(size):
                    for ask in OF_WORDS:
                        reference.refused(self, NoWord, ask, scheme, word)
                for ask in OF_SIZES:
                    reference.refused(self, NoWord, ask, scheme, size)

    def test_of_reach_bits_it_is_not_refused(self):
        for scheme in reference.schemes():
            for size in (scheme[0], scheme[0] + 1):
                self.assertEqual(len(bits_of(scheme, [1] * size)), steps_of(scheme, size))
                self.assertEqual(len(sent(scheme, [1] * size)), len(places_of(scheme, size)))

    def test_elsewhere_no_length_is_refused(self):
        for scheme in reference.schemes(endings=("open", "ended")):
            for size in range(scheme[0] + 1):
                self.assertEqual(len(rooms_of(scheme, [1] * size)), steps_of(scheme, size) + 1)
                self.assertEqual(len(sent(scheme, [1] * size)), len(places_of(scheme, size)))


if __name__ == "__main__":
    unittest.main()
