import copy
import random
import unittest

import reference
from trellisway.errors import NoSigns
from trellisway.nearest import nearest
from trellisway.pieces import kept, settled

SIXTY = reference.SIXTY
ENDINGS = ("open", "ended")


def schemes():
    return reference.schemes(endings=ENDINGS)


def count_of(scheme, steps):
    return reference.sent_count(reference.opened(scheme), steps)


def cases(end, seed):
    for scheme in schemes():
        for steps in range(end):
            for heard in reference.hearings(count_of(scheme, steps), seed):
                yield scheme, steps, heard


def words_of(entries):
    return [entry[1] for entry in entries if entry is not None]


class ByHand(unittest.TestCase):
    # With 0 room 0 sends 0 0 and room 1 sends 1 0; with 1 room 0 sends 1 1 and room 1 sends 0 1.
    PLAIN = (1, (3, 1), ((1, 1),))

    def test_no_steps(self):
        for scheme in schemes():
            self.assertEqual(kept(scheme, 0, []), [(0, [])] + [None] * ((1 << scheme[0]) - 1))
            self.assertEqual(settled(scheme, 0, []), [])

    def test_one_step(self):
        for ending in ENDINGS:
            scheme = self.PLAIN + (ending,)
            heard = [("clear", 1), ("soft", 5, -2)]
            self.assertEqual(kept(scheme, 1, heard), [(6, [0]), (-2, [1])])
            self.assertEqual(settled(scheme, 1, heard), [])

    def test_what_is_settled(self):
        for ending in ENDINGS:
            scheme = self.PLAIN + (ending,)
            heard = [("clear", bit) for bit in (1, 1, 0, 1)]
            self.assertEqual(kept(scheme, 2, heard), [(2, [1, 0]), (0, [1, 1])])
            self.assertEqual(settled(scheme, 2, heard), [1])
            self.assertEqual(kept(scheme, 3, heard + [("gap",)] * 2), [(0, [1, 1, 0]), (0, [1, 1, 1])])
            self.assertEqual(settled(scheme, 3, heard + [("gap",)] * 2), [1, 1])

    def test_fewer_steps_than_rooms_need(self):
        scheme = (3, (1,), ((1,),), "ended")
        self.assertEqual(kept(scheme, 1, [("clear", 1)]), [(1, [0]), (0, [1])] + [None] * 6)
        told = [(1, [0, 0]), (2, [0, 1]), (0, [1, 0]), (1, [1, 1]), None, None, None, None]
        self.assertEqual(kept(scheme, 2, [("clear", 1), ("clear", 0)]), told)

    def test_of_equal_costs_the_first_word(self):
        for reach in reference.REACHES:
            scheme = (reach, (1, 0), ((1, 1), (0, 0)), "open")
            for steps in (reach, reach + 1, reach + 3, 20):
                heard = [("gap",)] * count_of(scheme, steps)
                first = [0] * (steps - reach)
                told = [(0, first + reference.bits_of_room(scheme, room)) for room in range(1 << reach)]
                self.assertEqual(kept(scheme, steps, heard), told)
                self.assertEqual(settled(scheme, steps, heard), first)

    def test_without_reach_all_is_settled(self):
        for ending in ENDINGS:
            scheme = (0, (1,), ((1,),), ending)
            heard = [("soft", 0, -SIXTY), ("gap",), ("soft", 3, 4), ("clear", 1)]
            self.assertEqual(kept(scheme, 4, heard), [(3 - SIXTY, [1, 0, 0, 1])])
            self.assertEqual(settled(scheme, 4, heard), [1, 0, 0, 1])

    def test_nothing_is_sent(self):
        for reach in reference.REACHES:
            for ending in ENDINGS:
                scheme = (reach, (1, 1), ((0, 0), (0, 0)), ending)
                self.assertEqual(settled(scheme, 60, []), [0] * (60 - reach))
                self.assertEqual([cost for cost, _ in kept(scheme, 60, [])], [0] * (1 << reach))


class AgainstAllWays(unittest.TestCase):
    def test_kept(self):
        for scheme, steps, heard in cases(7, 31):
            expected = reference.kept_by_all_ways(scheme, steps, heard)
            self.assertEqual(kept(scheme, steps, heard), expected, (scheme, steps, heard))

    def test_settled(self):
        for scheme, steps, heard in cases(7, 32):
            words = words_of(reference.kept_by_all_ways(scheme, steps, heard))
            expected = reference.common_beginning(words)
            self.assertEqual(settled(scheme, steps, heard), expected, (scheme, steps, heard))

    def test_longer_ones(self):
        for scheme in schemes():
            for heard in reference.hearings(count_of(scheme, 9), 33):
                expected = reference.kept_by_all_ways(scheme, 9, heard)
                self.assertEqual(kept(scheme, 9, heard), expected)
                self.assertEqual(settled(scheme, 9, heard), reference.common_beginning(words_of(expected)))


class UpToSixtySteps(unittest.TestCase):
    def test_against_the_cheapest_ends_of_ways(self):
        for scheme in schemes():
            for steps in (17, 60):
                heard = list(reference.hearings(count_of(scheme, steps), steps))
                for one in (heard[2], heard[3], heard[6]):
                    expected = reference.kept_from_the_end(scheme, steps, one)
                    self.assertEqual(kept(scheme, steps, one), expected, (scheme, steps))
                    self.assertEqual(settled(scheme, steps, one), reference.common_beginning(words_of(expected)))

    def test_much_is_settled_where_much_is_heard_rightly(self):
        for reach in reference.REACHES:
            for ending in ENDINGS:
                scheme = (reach, (1, (2 << reach) - 1, 1), ((1, 1, 1),), ending)
                word = [random.Random(reach).randrange(2) for _ in range(60)]
                signs = [sign for _, sign in reference.sent_with_steps(reference.opened(scheme), word)]
                told = settled(scheme, 60, [("clear", sign) for sign in signs])
                self.assertEqual(told, word[: len(told)])
                self.assertGreaterEqual(len(told), 60 - 2 * reach)


class WhateverIsHeardBehind(unittest.TestCase):
    def check(self, scheme, steps, heard, size, seed):
        more = reference.sent_count(scheme, size) - len(heard)
        told = settled(scheme, steps, heard)
        for behind in reference.hearings(more, seed):
            self.assertEqual(nearest(scheme, size, heard + behind)[1][: len(told)], told, (scheme, steps, heard))

    def test_small_lengths(self):
        for number, (scheme, steps, heard) in enumerate(cases(5, 34)):
            for size in (steps, steps + 1, steps + 3):
                self.check(scheme, steps, heard, size, number)

    def test_a_length_of_sixty(self):
        for number, scheme in enumerate(schemes()):
            for steps in (1, 30, 59, 60):
                for heard in list(reference.hearings(count_of(scheme, steps), 35))[2::4]:
                    self.check(scheme, steps, heard, 60, number)

    def test_what_is_settled_stays_settled(self):
        for scheme in schemes():
            for heard in reference.hearings(count_of(scheme, 14), 36):
                before = []
                for steps in range(15):
                    told = settled(scheme, steps, heard[: count_of(scheme, steps)])
                    self.assertEqual(told[: len(before)], before)
                    before = told


class Refusals(unittest.TestCase):
    def test_other_than_as_many_signs_as_are_sent(self):
        for scheme in schemes():
            for steps in (0, 1, 2, 3, 4, 5, 6, 7, 60):
                count = count_of(scheme, steps)
                for wrong in {0, count - 1, count + 1, 2 * count, 400} - {count, -1}:
                    for sign in (("clear", 1), ("gap",), ("soft", 3, -3)):
                        for ask in (kept, settled):
                            reference.refused(self, NoSigns, ask, scheme, steps, [sign] * wrong)

    def test_the_signs_behind_the_word_of_an_ended_scheme_are_no_part(self):
        scheme = (2, (7, 5), ((1, 1),), "ended")
        for ask in (kept, settled):
            ask(scheme, 3, [("clear", 1)] * 6)
            reference.refused(self, NoSigns, ask, scheme, 3, [("clear", 1)] * 10)


class Kinds(unittest.TestCase):
    def test_kinds(self):
        for scheme, steps, heard in cases(5, 37):
            told = kept(scheme, steps, heard)
            self.assertIs(type(told), list)
            self.assertEqual(len(told), 1 << scheme[0])
            for entry in told:
                if entry is not None:
                    self.assertIs(type(entry), tuple)
                    self.assertEqual([type(part) for part in entry], [int, list])
                    self.assertEqual([type(bit) for bit in entry[1]], [int] * steps)
            self.assertIs(type(settled(scheme, steps, heard)), list)
            self.assertTrue(all(type(bit) is int for bit in settled(scheme, steps, heard)))

    def test_by_name(self):
        scheme = (1, (3, 1), ((1, 1),), "open")
        heard = [("clear", 1)] * 4
        self.assertEqual(kept(scheme=scheme, steps=2, heard=heard), kept(scheme, 2, heard))
        self.assertEqual(settled(scheme=scheme, steps=2, heard=heard), settled(scheme, 2, heard))

    def test_what_is_handed_in_stays(self):
        for scheme, steps, heard in cases(5, 38):
            before = copy.deepcopy(heard)
            kept(scheme, steps, heard)
            settled(scheme, steps, heard)
            self.assertEqual(heard, before)

    def test_told_lists_are_the_askers_own(self):
        for scheme, steps, heard in cases(5, 39):
            first, word = kept(scheme, steps, heard), settled(scheme, steps, heard)
            before = copy.deepcopy(first), list(word)
            words = words_of(first)
            self.assertEqual(len({id(one) for one in words + [word]}), len(words) + 1)
            for one in words + [word]:
                one.append(9)
                one[0] = 7
            first[0] = "spoiled"
            self.assertEqual((kept(scheme, steps, heard), settled(scheme, steps, heard)), before)

    def test_told_lists_stay_when_the_heard_signs_change(self):
        for scheme, steps, heard in cases(5, 40):
            told = kept(scheme, steps, heard), settled(scheme, steps, heard)
            before = copy.deepcopy(told)
            heard.clear()
            self.assertEqual(told, before)


if __name__ == "__main__":
    unittest.main()
