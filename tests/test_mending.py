import copy
import functools
import itertools
import random
import unittest

import reference
from trellisway.errors import NoWord
from trellisway.few import few
from trellisway.mending import blocks, sure
from trellisway.nearest import nearest

# Each step sends two signs; the rests for 1, 3 and 5 ones are 2, 6 and 10, the distance is 5 in the ended scheme.
USUAL = (2, (7, 5), ((1, 1),))
# A pause below 0 is none that is told of; places of one step stay together with it all the same.
PAUSES = (None, -1, 0, 1, 2, 3, 5, 9, 60, 10**60)

distance = functools.lru_cache(maxsize=None)(reference.distance)


def lists_of_places(count, seed):
    chance = random.Random(seed)
    yield []
    yield list(range(count))
    for place in range(count):
        yield [place]
    for number in (2, 3, 5, 9):
        for _ in range(3):
            yield sorted(chance.sample(range(count), min(number, count)))


def loads(count, seed):
    """(wrong, gaps): none, all, each place by itself, some of both sorts."""
    chance = random.Random(seed)
    yield [], []
    yield list(range(count)), []
    yield [], list(range(count))
    for place in range(count):
        yield [place], []
        yield [], [place]
    for number, wrong in ((2, 2), (2, 1), (2, 0), (3, 3), (3, 1), (3, 0), (4, 2), (5, 0), (6, 4), (9, 3)):
        if number <= count:
            places = chance.sample(range(count), number)
            yield sorted(places[:wrong]), sorted(places[wrong:])


def spread(scheme, size, bound, between, seed):
    """(wrong, gaps) in groups of at most so many wrong places, with so many steps between them."""
    chance = random.Random(seed)
    steps = [number for number, _ in reference.sent_with_steps(scheme, [0] * size)]
    wrong = []
    gaps = []
    first = chance.randrange(3)
    while first < steps[-1]:
        near = [place for place, number in enumerate(steps) if first <= number <= first + 2]
        if not near:
            break
        chosen = chance.sample(near, min(len(near), bound + chance.randrange(2)))
        wrong += chosen[:bound]
        gaps += chosen[bound:]
        first = max([steps[place] for place in chosen], default=first) + 1 + between
    return sorted(wrong), sorted(gaps)


def strong_schemes(endings=reference.ENDINGS):
    """Schemes whose words are far apart."""
    found = []
    for reach in reference.REACHES:
        end = 2 << reach
        for ending in endings:
            taps = (end - 1, 1 | end // 2, 1, end - 1)
            found += [(reach, taps, ((1, 1, 1, 1),), ending), (reach, taps, ((1, 1, 1, 1), (1, 0, 1, 1)), ending)]
    return found


class BlocksByHand(unittest.TestCase):
    # Places 0, 1 are of step 0, place 2 of step 2, places 3, 4 of step 3, place 5 of step 5, places 6, 7 of step 6.
    GAPPED = (0, (1, 1), ((1, 1), (0, 0), (1, 0)), "open")

    def test_no_places(self):
        for scheme in reference.schemes():
            for pause in PAUSES:
                self.assertEqual(blocks(scheme, 5, [], pause), [])

    def test_neighbouring_steps(self):
        for ending in reference.ENDINGS:
            scheme = USUAL + (ending,)
            self.assertEqual(blocks(scheme, 3, [1, 2, 4], 0), [[1], [2], [4]])
            self.assertEqual(blocks(scheme, 3, [1, 2, 4], 1), [[1, 2, 4]])
            self.assertEqual(blocks(scheme, 3, [0, 1, 2, 3, 4, 5], 0), [[0, 1], [2, 3], [4, 5]])

    def test_as_many_steps_as_the_pause(self):
        for ending in reference.ENDINGS:
            scheme = USUAL + (ending,)
            # The steps of the two are 1 and 5.
            self.assertEqual(blocks(scheme, 9, [3, 10], 2), [[3], [10]])
            self.assertEqual(blocks(scheme, 9, [3, 10], 3), [[3], [10]])
            self.assertEqual(blocks(scheme, 9, [3, 10], 4), [[3, 10]])
            self.assertEqual(blocks(scheme, 9, [3, 10], None), [[3, 10]])

    def test_only_neighbouring_places_count(self):
        scheme = USUAL + ("open",)
        self.assertEqual(blocks(scheme, 9, [0, 4, 8, 12, 16], 2), [[0, 4, 8, 12, 16]])
        self.assertEqual(blocks(scheme, 9, [0, 4, 8, 14, 16], 2), [[0, 4, 8], [14, 16]])

    def test_places_of_one_step(self):
        for reach in reference.REACHES:
            for ending in reference.ENDINGS:
                scheme = (reach, (1, 1, 1, 1), ((1, 1, 1, 1), (1, 0, 1, 0)), ending)
                for pause in PAUSES:
                    self.assertEqual(blocks(scheme, 4, [0, 1, 2, 3], pause), [[0, 1, 2, 3]])
                    self.assertEqual(blocks(scheme, 4, [0, 3], pause), [[0, 3]])
                    self.assertEqual(blocks(scheme, 4, [4, 5], pause), [[4, 5]])

    def test_steps_that_send_nothing_lie_between(self):
        scheme = self.GAPPED
        self.assertEqual(blocks(scheme, 7, [0, 1, 2, 3, 4, 5, 6, 7], 0), [[0, 1], [2], [3, 4], [5], [6, 7]])
        self.assertEqual(blocks(scheme, 7, [0, 1, 2, 3, 4, 5, 6, 7], 1), [[0, 1], [2, 3, 4], [5, 6, 7]])
        self.assertEqual(blocks(scheme, 7, [0, 1, 2, 3, 4, 5, 6, 7], 2), [[0, 1, 2, 3, 4, 5, 6, 7]])
        self.assertEqual(blocks(scheme, 7, [1, 3, 6], 2), [[1], [3], [6]])
        self.assertEqual(blocks(scheme, 7, [1, 3, 6], 3), [[1, 3, 6]])

    def test_the_steps_behind_the_word_of_an_ended_scheme(self):
        scheme = USUAL + ("ended",)
        self.assertEqual(blocks(scheme, 0, [0, 1, 2, 3], 0), [[0, 1], [2, 3]])
        self.assertEqual(blocks(scheme, 3, [0, 9], 3), [[0], [9]])
        self.assertEqual(blocks(scheme, 3, [0, 9], 4), [[0, 9]])


class Blocks(unittest.TestCase):
    def test_against_cuts(self):
        for scheme in reference.schemes():
            for size in list(reference.sizes_of(scheme, 4)) + [60]:
                for places in lists_of_places(reference.sent_count(scheme, size), size):
                    for pause in PAUSES if size < 60 else (None, 0, 2, 7):
                        told = blocks(scheme, size, places, pause)
                        expected = reference.parted(scheme, size, places, pause)
                        self.assertEqual(told, expected, (scheme, size, places, pause))

    def test_all_places_are_told_rising(self):
        for scheme in reference.random_schemes(71, 2):
            count = reference.sent_count(scheme, 60)
            for pause in PAUSES:
                told = blocks(scheme, 60, list(range(count)), pause)
                self.assertEqual([place for block in told for place in block], list(range(count)))
                self.assertTrue(all(told))

    def test_no_pause_makes_one_block(self):
        for scheme in reference.schemes():
            for places in lists_of_places(reference.sent_count(scheme, 9), 72):
                self.assertEqual(blocks(scheme, 9, places, None), [places] if places else [])

    def test_lengths_below_the_reach_in_a_ring(self):
        for scheme in reference.schemes(endings=("ring",)):
            for size in range(scheme[0]):
                for pause in (None, 0, 3):
                    reference.refused(self, NoWord, blocks, scheme, size, [], pause)
                    reference.refused(self, NoWord, blocks, scheme, size, [0, 1], pause)

    def test_kinds(self):
        for scheme in reference.schemes():
            told = blocks(scheme, 5, list(range(reference.sent_count(scheme, 5))), 1)
            self.assertIs(type(told), list)
            for block in told:
                self.assertIs(type(block), list)
                self.assertTrue(all(type(place) is int for place in block))

    def test_by_name(self):
        scheme = USUAL + ("open",)
        self.assertEqual(blocks(scheme=scheme, size=3, places=[0, 5], pause=1), [[0], [5]])

    def test_the_places_stay_and_the_blocks_are_the_askers_own(self):
        for scheme in reference.schemes():
            for pause in (None, 0, 2):
                places = list(range(reference.sent_count(scheme, 6)))
                before = list(places)
                told = blocks(scheme, 6, places, pause)
                kept = copy.deepcopy(told)
                self.assertEqual(places, before)
                places.append(7)
                self.assertEqual(told, kept)
                for block in told:
                    block.clear()
                told.append("spoiled")
                self.assertEqual(places, before + [7])
                self.assertEqual(blocks(scheme, 6, before, pause), kept)


class SureByHand(unittest.TestCase):
    ENDED = USUAL + ("ended",)

    def test_nothing_wrong(self):
        self.assertEqual(sure(self.ENDED, 9, [], []), (0, 2, []))
        self.assertEqual(sure(USUAL + ("open",), 9, [], []), (0, None, []))
        self.assertEqual(sure(USUAL + ("ring",), 9, [], []), (0, None, []))

    def test_one_wrong_place(self):
        for place in range(22):
            self.assertEqual(sure(self.ENDED, 9, [place], []), (1, 6, [[place]]))
        for place in range(18):
            # Here 2 is the distance, and one wrong place weighs as much.
            self.assertIsNone(sure(USUAL + ("open",), 9, [place], []))
            self.assertEqual(sure(USUAL + ("ring",), 9, [place], []), (1, None, [[place]]))

    def test_blocks_by_the_pause_for_e(self):
        # The steps of the wrong places are 0 and 7, so six lie between.
        self.assertEqual(sure(self.ENDED, 60, [0, 14], []), (1, 6, [[0], [14]]))
        self.assertEqual(sure(self.ENDED, 60, [0, 14, 28, 42], []), (1, 6, [[0], [14], [28], [42]]))
        # Five lie between: with e 1 both are in one block, so e is 2 and the pause longer.
        self.assertEqual(sure(self.ENDED, 60, [0, 12], []), (2, 10, [[0, 12]]))
        self.assertEqual(sure(self.ENDED, 60, [0, 2, 24], []), (2, 10, [[0, 2], [24]]))

    def test_a_longer_pause_makes_heavier_blocks(self):
        # With e 1 the first block has two wrong places; with e 2 the pause is 10 and all three are in one block.
        self.assertIsNone(sure(self.ENDED, 60, [0, 2, 18], []))
        self.assertIsNone(sure(self.ENDED, 60, [0, 12, 24], []))

    def test_two_for_a_wrong_place_and_one_for_a_gap(self):
        self.assertEqual(sure(self.ENDED, 9, [0], [1, 2]), (1, 6, [[0, 1, 2]]))
        self.assertIsNone(sure(self.ENDED, 9, [0], [1, 2, 3]))
        self.assertEqual(sure(self.ENDED, 9, [1, 3], []), (2, 10, [[1, 3]]))
        self.assertIsNone(sure(self.ENDED, 9, [1, 3], [2]))
        self.assertIsNone(sure(self.ENDED, 9, [1, 3, 5], []))

    def test_only_gaps(self):
        self.assertEqual(sure(self.ENDED, 9, [], [0, 1, 2, 3]), (0, 2, [[0, 1, 2, 3]]))
        self.assertIsNone(sure(self.ENDED, 9, [], [0, 1, 2, 3, 4]))
        self.assertEqual(sure(self.ENDED, 9, [], [0, 1, 2, 3, 10]), (0, 2, [[0, 1, 2, 3], [10]]))
        self.assertEqual(sure(USUAL + ("open",), 9, [], [6]), (0, None, [[6]]))
        self.assertIsNone(sure(USUAL + ("open",), 9, [], [0, 17]))
        self.assertEqual(sure(USUAL + ("ring",), 9, [], [0, 5, 10, 17]), (0, None, [[0, 5, 10, 17]]))

    def test_wrong_places_and_gaps_are_parted_together(self):
        # The gap lies between, so that no two neighbours have six steps between them.
        self.assertIsNone(sure(self.ENDED, 60, [0, 14], [6]))
        self.assertEqual(sure(self.ENDED, 60, [0], [6, 14]), (1, 6, [[0, 6, 14]]))
        self.assertEqual(sure(self.ENDED, 60, [0], [20, 34]), (1, 6, [[0], [20], [34]]))

    def test_without_reach_each_step_is_a_block(self):
        scheme = (0, (1, 1, 1), ((1, 1, 1),), "ended")
        self.assertEqual(sure(scheme, 3, [0, 4, 8], []), (1, 0, [[0], [4], [8]]))
        self.assertEqual(sure(scheme, 3, [], [0, 1, 4, 5]), (0, 0, [[0, 1], [4, 5]]))
        self.assertIsNone(sure(scheme, 3, [0], [1]))
        for ending in ("open", "ring"):
            self.assertIsNone(sure(scheme[:3] + (ending,), 3, [0, 4], []))

    def test_the_distance_0(self):
        for reach in reference.REACHES:
            for ending in reference.ENDINGS:
                scheme = (reach, (1, 1), ((1, 0), (0, 0)), ending)
                for wrong, gaps in (([], []), ([0], []), ([], [0])):
                    self.assertIsNone(sure(scheme, 6, wrong, gaps))
        for ending in reference.ENDINGS:
            self.assertIsNone(sure((1, (1,), ((0,),), ending), 6, [], []))

    def test_where_a_rest_is_none(self):
        # In room 1 the tap 3 makes no 1 with 1, so a way can stay there quietly.
        scheme = (1, (3, 3), ((1, 1),), "ended")
        self.assertEqual(sure(scheme, 9, [], []), (0, None, []))
        self.assertEqual(sure(scheme, 9, [0], [19]), (1, None, [[0, 19]]))
        self.assertIsNone(sure(scheme, 9, [0, 18], []))

    def test_the_length_0(self):
        for scheme in (USUAL + ("open",), (0, (1,), ((1,),), "ring"), (0, (1,), ((0,),), "open")):
            self.assertEqual(sure(scheme, 0, [], []), (0, None, []))
        # Both ended schemes send two signs at each of the steps behind the word.
        self.assertEqual(sure(self.ENDED, 0, [], []), (0, 2, []))
        self.assertEqual(sure(self.ENDED, 0, [], [0, 1, 2, 3]), (0, 2, [[0, 1, 2, 3]]))
        self.assertEqual(sure(self.ENDED, 0, [0, 1, 2, 3], []), (4, 18, [[0, 1, 2, 3]]))
        scheme = (4, (1, 1), ((1, 1),), "ended")
        self.assertEqual(sure(scheme, 0, [1, 3], [6]), reference.mended(scheme, 0, [1, 3], [6], None))
        self.assertEqual(sure((2, (0,), ((1,),), "ended"), 0, [0, 1], []), (2, None, [[0, 1]]))


class Sure(unittest.TestCase):
    def check(self, scheme, size, wrong, gaps):
        told = sure(scheme, size, wrong, gaps)
        expected = reference.mended(scheme, size, wrong, gaps, distance(scheme, size))
        self.assertEqual(told, expected, (scheme, size, wrong, gaps))
        return told

    def test_small_lengths(self):
        for scheme in reference.schemes():
            for size in reference.sizes_of(scheme, 4):
                for wrong, gaps in loads(reference.sent_count(scheme, size), size):
                    self.check(scheme, size, wrong, gaps)

    def test_all_loads_of_two_places(self):
        for reach in reference.REACHES:
            for ending in reference.ENDINGS:
                scheme = (reach, ((2 << reach) - 1, 1), ((1, 1), (1, 0)), ending)
                count = reference.sent_count(scheme, 4)
                for place, later in itertools.combinations(range(count), 2):
                    for wrong in ([], [place], [later], [place, later]):
                        gaps = [one for one in (place, later) if one not in wrong]
                        self.check(scheme, 4, wrong, gaps)

    def test_many_schemes(self):
        seen = set()
        for number, scheme in enumerate(reference.random_schemes(73, 3)):
            for wrong, gaps in loads(reference.sent_count(scheme, 5), number):
                told = self.check(scheme, 5, wrong, gaps)
                seen.add((scheme[3], told is None))
        self.assertEqual(len(seen), 6)

    def test_several_blocks(self):
        seen = set()
        for reach in (0, 1, 2, 3):
            scheme = (reach, ((2 << reach) - 1, 1 | (1 << reach), 1), ((1, 1, 1),), "ended")
            for bound in (0, 1, 2, 3):
                pause = reference.rest_for(scheme, 2 * bound + 1)
                for between in {max(pause - 1, 0), pause, pause + 3}:
                    for seed in range(4):
                        told = self.check(scheme, 40, *spread(scheme, 40, bound, between, seed))
                        if told is not None:
                            seen.add((told[0], len(told[2]) > 1))
        self.assertTrue({(0, True), (1, True), (2, True)} <= seen, seen)

    def test_sixty_bits(self):
        for scheme in reference.schemes():
            places = list(range(reference.sent_count(scheme, 60)))
            self.check(scheme, 60, places[::9], [])
            self.check(scheme, 60, places[3::29], places[4::19])
            # Where each sign is wrong or a gap, no word costs more than the sent one.
            for wrong, gaps in ((places, []), ([], places), (places[::2], places[1::2])):
                self.assertIsNone(sure(scheme, 60, wrong, gaps))

    def test_lengths_below_the_reach_in_a_ring(self):
        for scheme in reference.schemes(endings=("ring",)):
            for size in range(scheme[0]):
                reference.refused(self, NoWord, sure, scheme, size, [], [])
                reference.refused(self, NoWord, sure, scheme, size, [0], [1])

    def test_kinds(self):
        for scheme in reference.schemes():
            told = sure(scheme, 5, [], [0] if reference.sent_count(scheme, 5) else [])
            if told is not None:
                self.assertIs(type(told), tuple)
                self.assertEqual(len(told), 3)
                self.assertIs(type(told[0]), int)
                self.assertIn(type(told[1]), (int, type(None)) if scheme[3] == "ended" else (type(None),))
                self.assertIs(type(told[2]), list)
                self.assertTrue(all(type(block) is list for block in told[2]))

    def test_by_name(self):
        scheme = USUAL + ("ended",)
        self.assertEqual(sure(scheme=scheme, size=9, wrong=[0], gaps=[1]), (1, 6, [[0, 1]]))

    def test_the_places_stay_and_the_blocks_are_the_askers_own(self):
        scheme = USUAL + ("ended",)
        wrong = [0, 30]
        gaps = [1, 31]
        told = sure(scheme, 60, wrong, gaps)
        self.assertEqual((wrong, gaps), ([0, 30], [1, 31]))
        wrong.append(99)
        gaps.clear()
        self.assertEqual(told, (1, 6, [[0, 1], [30, 31]]))
        for block in told[2]:
            block.clear()
        told[2].append("spoiled")
        self.assertEqual(sure(scheme, 60, [0, 30], [1, 31]), (1, 6, [[0, 1], [30, 31]]))


class ToldAgain(unittest.TestCase):
    def check(self, scheme, word, wrong, gaps):
        heard = reference.heard_with(scheme, word, wrong, gaps)
        told = few(scheme, len(word), heard)
        self.assertEqual(nearest(scheme, len(word), heard), (len(wrong), word), (scheme, word, wrong, gaps))
        self.assertEqual(told[0], (len(wrong), word))
        for other in told[1:]:
            self.assertGreater(other[0], len(wrong), (scheme, word, wrong, gaps))

    def mended_loads(self, scheme, size):
        """By their shape (none, one or more wrong places, with gaps or without) at most three loads each."""
        found = {}
        for wrong, gaps in loads(reference.sent_count(scheme, size), size + 7):
            if sure(scheme, size, wrong, gaps) is not None:
                found.setdefault((min(len(wrong), 2), gaps != []), []).append((wrong, gaps))
        return {shape: loads_found[-3:] for shape, loads_found in found.items()}

    def test_each_word_of_small_lengths(self):
        seen = set()
        for scheme in reference.schemes() + strong_schemes():
            for size in reference.sizes_of(scheme, 4):
                for shape, found in self.mended_loads(scheme, size).items():
                    seen.add((scheme[3], scheme[0]) + shape)
                    for word, (wrong, gaps) in itertools.product(reference.all_words(size), found):
                        self.check(scheme, word, wrong, gaps)
        for ending, reach in itertools.product(reference.ENDINGS, reference.REACHES):
            for shape in ((0, False), (0, True), (1, False)):
                self.assertIn((ending, reach) + shape, seen)
            self.assertTrue(reach == 1 or (ending, reach, 1, True) in seen)
        self.assertTrue({("ended", 4, 2, False), ("ended", 4, 2, True), ("ring", 4, 2, False)} <= seen)

    def test_long_words_with_several_blocks(self):
        seen = set()
        for scheme in strong_schemes(("ended",)):
            for bound in (0, 1, 2):
                pause = reference.rest_for(scheme, 2 * bound + 1)
                for seed in range(3):
                    wrong, gaps = spread(scheme, 60, bound, pause, seed)
                    told = sure(scheme, 60, wrong, gaps)
                    if told is not None:
                        seen.add((told[0], len(told[2]) > 1))
                        words = reference.long_words(scheme, seed)
                        for word in words[:2] + words[-1:]:
                            self.check(scheme, word, wrong, gaps)
        self.assertTrue({(0, True), (1, True), (2, True)} <= seen, seen)


if __name__ == "__main__":
    unittest.main()
