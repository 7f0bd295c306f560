import copy
import unittest

import reference
from trellisway.costs import ahead, cost
from trellisway.errors import NoSigns, NoWord
from trellisway.few import few
from trellisway.nearest import nearest
from trellisway.sending import sent

SIXTY = reference.SIXTY
USUAL = (2, (7, 5), ((1, 1), (1, 0)))

# Each asks for words of one length, by what is heard.
ASKS = (
    lambda scheme, size, heard: cost(scheme, [1] * size, heard),
    lambda scheme, size, heard: ahead(scheme, size, heard),
    lambda scheme, size, heard: ahead(scheme, size, heard, 0),
    lambda scheme, size, heard: nearest(scheme, size, heard),
    lambda scheme, size, heard: few(scheme, size, heard),
    lambda scheme, size, heard: few(scheme, size, heard, 0),
)


class Cost(unittest.TestCase):
    HEARD = [("clear", 1), ("gap",), ("soft", -4, 9), ("soft", SIXTY, 0), ("clear", 1)]

    def test_by_hand(self):
        self.assertEqual(sent(USUAL + ("open",), [1, 0, 1]), [1, 1, 1, 0, 0])
        self.assertEqual(cost(USUAL + ("open",), [1, 0, 1], self.HEARD), 0 + 0 + 9 + SIXTY + 1)
        self.assertEqual(sent(USUAL + ("ring",), [1, 0, 1]), [0, 1, 0, 0, 0])
        self.assertEqual(cost(USUAL + ("ring",), [1, 0, 1], self.HEARD), 1 + 0 - 4 + SIXTY + 1)
        self.assertEqual(sent(USUAL + ("ended",), [1]), [1, 1, 1, 1, 1])
        self.assertEqual(cost(USUAL + ("ended",), [1], self.HEARD), 0 + 0 + 9 + 0 + 0)

    def test_nothing_is_sent(self):
        for ending in reference.ENDINGS:
            self.assertEqual(cost((1, (3,), ((0,),), ending), [1, 0, 1], []), 0)
            self.assertEqual(cost((0, (1,), ((1,),), ending), [], []), 0)
        self.assertEqual(cost((3, (15,), ((1,),), "open"), [], []), 0)

    def test_what_was_sent_costs_nothing(self):
        for scheme in reference.schemes():
            for word in reference.long_words(scheme, 5):
                heard = [("clear", sign) for sign in sent(scheme, word)]
                self.assertEqual(cost(scheme, word, heard), 0)
                wrong = [("clear", 1 - sign) for sign in sent(scheme, word)]
                self.assertEqual(cost(scheme, word, wrong), len(wrong))

    def test_the_sum_of_single_costs(self):
        for scheme in reference.schemes():
            for word in reference.long_words(scheme, 6):
                for heard in reference.hearings(reference.sent_count(scheme, len(word)), len(word)):
                    told = cost(scheme, word, heard)
                    self.assertIs(type(told), int)
                    self.assertEqual(told, reference.price_of_word(scheme, word, heard), (scheme, word, heard))

    def test_soft_signs_of_sixty_figures(self):
        scheme = (0, (1,), ((1,),), "open")
        heard = [("soft", -SIXTY, SIXTY - 1)] * 60
        self.assertEqual(cost(scheme, [0] * 60, heard), -60 * SIXTY)
        self.assertEqual(cost(scheme, [1] * 60, heard), 60 * (SIXTY - 1))
        self.assertEqual(cost(scheme, [1, 0] * 30, heard), -30)


class Refusals(unittest.TestCase):
    def test_other_than_as_many_signs_as_are_sent(self):
        for scheme in reference.schemes():
            for size in list(reference.sizes_of(scheme, 4)) + [60]:
                count = reference.sent_count(scheme, size)
                for wrong in {0, count - 1, count + 1, 2 * count, 400} - {count, -1}:
                    for sign in (("clear", 1), ("gap",), ("soft", 3, -3)):
                        for ask in ASKS:
                            reference.refused(self, NoSigns, ask, scheme, size, [sign] * wrong)

    def test_short_words_in_a_ring_ahead_of_the_signs(self):
        for scheme in reference.schemes(endings=("ring",)):
            for size in range(scheme[0]):
                for count in (0, 1, 2, size * len(scheme[1]), 40, 401):
                    for ask in ASKS:
                        reference.refused(self, NoWord, ask, scheme, size, [("clear", 1)] * count)
                    for start in range(1 << scheme[0]):
                        reference.refused(self, NoWord, ahead, scheme, size, [("gap",)] * count, start)

    def test_each_start_in_a_ring_is_refused_alike(self):
        scheme = USUAL + ("ring",)
        for start in range(4):
            reference.refused(self, NoSigns, ahead, scheme, 3, [("gap",)] * 4, start)
            reference.refused(self, NoSigns, ahead, scheme, 3, [("gap",)] * 6, start)

    def test_as_many_as_are_sent_are_not_refused(self):
        for scheme in reference.schemes():
            for size in reference.sizes_of(scheme, 4):
                for ask in ASKS:
                    ask(scheme, size, [("clear", 1)] * reference.sent_count(scheme, size))

    def test_what_is_handed_in_stays(self):
        for scheme in reference.schemes():
            size = 5
            for heard in reference.hearings(reference.sent_count(scheme, size), 4):
                before = copy.deepcopy(heard)
                for ask in ASKS:
                    ask(scheme, size, heard)
                    self.assertEqual(heard, before)
                word = [1, 0, 0, 1, 1]
                cost(scheme, word, heard)
                self.assertEqual(word, [1, 0, 0, 1, 1])


def starts_of(scheme):
    return range(1 << scheme[0]) if scheme[3] == "ring" else (0,)


def ends_of(scheme, start):
    count = 1 << scheme[0]
    if scheme[3] == "open":
        return [0] * count
    return [0 if room == start else None for room in range(count)]


class Ahead(unittest.TestCase):
    def test_by_hand_open(self):
        told = ahead((1, (3, 1), ((1, 1),), "open"), 2, [("clear", 1), ("clear", 1), ("clear", 0), ("soft", 5, -2)])
        # With 0 room 0 sends 0 0 and room 1 sends 1 0; with 1 room 0 sends 1 1 and room 1 sends 0 1.
        self.assertEqual(told, [[-2, -1], [-1, -2], [0, 0]])

    def test_by_hand_ended(self):
        told = ahead((1, (3, 1), ((1, 1),), "ended"), 1, [("clear", 1), ("clear", 1), ("clear", 0), ("soft", 5, -2)])
        self.assertEqual(told, [[6, 6], [5, 6], [0, None]])

    def test_by_hand_ring(self):
        scheme = (2, (7,), ((1,),), "ring")
        heard = [("soft", 0, 1), ("soft", 0, 10)]
        # A step sends 1 where an odd number of the last three bits are 1. The two bits are those of the end's room.
        self.assertEqual(ahead(scheme, 2, heard, 0), [[0, 11, 1, 10], [0, None, 10, None], [0, None, None, None]])
        self.assertEqual(ahead(scheme, 2, heard, 3), [[1, 10, 0, 11], [None, 0, None, 10], [None, None, None, 0]])

    def test_by_hand_the_length_0(self):
        self.assertEqual(ahead((2, (7,), ((1,),), "open"), 0, []), [[0, 0, 0, 0]])
        self.assertEqual(ahead((0, (1,), ((1,),), "ring"), 0, []), [[0]])
        self.assertEqual(ahead((0, (1,), ((1,),), "ended"), 0, []), [[0]])
        heard = [("soft", 3, 1), ("soft", 20, 50)]
        told = ahead((2, (7,), ((1,),), "ended"), 0, heard)
        self.assertEqual(told, [[23, 51, 21, 53], [20, None, 50, None], [0, None, None, None]])

    def test_nothing_is_sent(self):
        self.assertEqual(ahead((1, (3,), ((0,),), "open"), 2, []), [[0, 0]] * 3)
        self.assertEqual(ahead((1, (3,), ((0,),), "ended"), 1, []), [[0, 0], [0, 0], [0, None]])
        self.assertEqual(ahead((1, (3,), ((0,),), "ring"), 1, [], 1), [[0, 0], [None, 0]])

    def check(self, scheme, size, heard, start, told):
        pieces = reference.pieces_of(scheme, size, heard)
        self.assertIs(type(told), list)
        self.assertEqual(len(told), len(pieces) + 1)
        for row in told:
            self.assertIs(type(row), list)
            self.assertEqual(len(row), 1 << scheme[0])
            self.assertTrue(all(entry is None or type(entry) is int for entry in row))
        self.assertEqual(told[-1], ends_of(scheme, start))
        for number in range(len(pieces)):
            for room in range(1 << scheme[0]):
                found = []
                for bit in (0, 1) if number < size else (0,):
                    led, paid = reference.moves_by_hand(scheme, number, pieces, room, bit)
                    if told[number + 1][led] is not None:
                        found.append(paid + told[number + 1][led])
                self.assertEqual(told[number][room], min(found, default=None), (scheme, size, heard, start, number))

    def test_each_entry_by_the_one_behind(self):
        for scheme in reference.schemes():
            for size in reference.sizes_of(scheme, 4):
                for heard in reference.hearings(reference.sent_count(scheme, size), 8):
                    for start in starts_of(scheme):
                        self.check(scheme, size, heard, start, ahead(scheme, size, heard, start))

    def test_each_entry_for_sixty_bits(self):
        for scheme in reference.schemes():
            heard = list(reference.hearings(reference.sent_count(scheme, 60), 9))[-1]
            for start in starts_of(scheme)[-2:]:
                self.check(scheme, 60, heard, start, ahead(scheme, 60, heard, start))

    def test_where_the_end_is_not_come_to(self):
        for reach in reference.REACHES:
            count = 1 << reach
            for ending in ("ended", "ring"):
                scheme = (reach, (1,), ((1,),), ending)
                size = reach + 2 if ending == "ring" else 2
                heard = [("clear", 0)] * (reach + 2)
                for start in starts_of(scheme):
                    told = ahead(scheme, size, heard, start)
                    for left in range(reach + 1):
                        # With so many steps left, a room leads to the end where its newest bits are the end's first.
                        led = [room for room in range(count) if (room << left) % count == start >> left << left]
                        entries = told[len(told) - 1 - left]
                        there = [room for room in range(count) if entries[room] is not None]
                        self.assertEqual(there, led, (scheme, start, left))

    def test_start_by_name_and_by_place(self):
        scheme = (2, (7, 5), ((1, 1), (0, 1)), "ring")
        for heard in reference.hearings(6, 2):
            by_place = [ahead(scheme, 4, heard, start) for start in range(4)]
            self.assertEqual([ahead(scheme, 4, heard, start=start) for start in range(4)], by_place)
            self.assertEqual(ahead(scheme, 4, heard), by_place[0])
            self.assertEqual(ahead(scheme=scheme, size=4, heard=heard, start=3), by_place[3])

    def test_elsewhere_start_is_not_looked_at(self):
        for scheme in reference.schemes(endings=("open", "ended")):
            heard = list(reference.hearings(reference.sent_count(scheme, 3), 1))[-1]
            told = ahead(scheme, 3, heard)
            for start in (0, 1, (1 << scheme[0]) - 1, 1 << scheme[0], 99, -1, None, "room"):
                self.assertEqual(ahead(scheme, 3, heard, start), told)
                self.assertEqual(ahead(scheme, 3, heard, start=start), told)

    def test_the_least_of_all_words(self):
        for scheme in reference.schemes():
            for size in reference.sizes_of(scheme, 4):
                for heard in reference.hearings(reference.sent_count(scheme, size), 13):
                    least = min(ahead(scheme, size, heard, start)[0][start] for start in starts_of(scheme))
                    self.assertEqual(least, reference.ranked(scheme, size, heard)[0][0])

    def test_told_lists_are_the_askers_own(self):
        for scheme in reference.schemes():
            heard = [("clear", 1)] * reference.sent_count(scheme, 5)
            first = ahead(scheme, 5, heard)
            kept = copy.deepcopy(first)
            self.assertEqual(len({id(row) for row in first}), len(first))
            for row in first:
                row[0] = "spoiled"
                row.append(7)
            first.pop()
            self.assertEqual(ahead(scheme, 5, heard), kept)

    def test_told_lists_stay_when_the_heard_signs_change(self):
        for scheme in reference.schemes():
            heard = [("clear", 1)] * reference.sent_count(scheme, 5)
            told = ahead(scheme, 5, heard)
            kept = copy.deepcopy(told)
            heard.clear()
            self.assertEqual(told, kept)


if __name__ == "__main__":
    unittest.main()
