import copy
import unittest

import reference
from trellisway.quiet import quiet
from trellisway.rest import fewest, rest, sparse


def schemes():
    yield from reference.schemes(endings=("ended",))
    yield from reference.random_schemes(61, 5)


def least_ones(scheme, steps):
    return min(fewest(scheme, steps)[steps].values())


class ByHand(unittest.TestCase):
    # From room 1 to room 2 with 0 is sent 1 0, from 1 to 3 with 1 0 1; from 2 to 1 with 1 0 0; from 3 to 2 with 0
    # 0 1, from 3 to 3 with 1 1 0.
    USUAL = (2, (7, 5), ((1, 1),), "ended")

    def test_fewest(self):
        told = fewest(self.USUAL, 4)
        rows = ((0, 0, 0), (1, 0, 1), (1, 1, 1), (2, 1, 2), (2, 2, 2))
        self.assertEqual(told, [{(0, 1): one, (0, 2): two, (0, 3): three} for one, two, three in rows])

    def test_sparse(self):
        self.assertEqual(sparse(self.USUAL, 1), (0, (0, 2), [1]))
        self.assertEqual(sparse(self.USUAL, 3), (1, (0, 2), [1, 0, 1]))
        told = sparse((1, (1,), ((0,), (1,), (1,)), "open"), 2)
        self.assertIn(told, ((1, (0, 1), [1, 1]), (1, (2, 1), [1, 1])))

    def test_rest(self):
        self.assertEqual([rest(self.USUAL, ones) for ones in range(-2, 6)], [0, 0, 0, 2, 4, 6, 8, 10])
        # The tap 1 sends the bit, and in room 1 only the step with 1 stays.
        for ending in reference.ENDINGS:
            self.assertEqual([rest((1, (1,), ((1,),), ending), ones) for ones in range(41)], list(range(41)))

    def test_rest_by_the_row_of_the_phase(self):
        scheme = (1, (1, 1), ((0, 0), (1, 1), (0, 0)), "open")
        self.assertEqual(fewest(scheme, 2)[1:], [{(0, 1): 0, (1, 1): 2, (2, 1): 0}, {(0, 1): 2, (1, 1): 2, (2, 1): 0}])
        self.assertEqual([rest(scheme, ones) for ones in range(6)], [0, 3, 3, 6, 6, 9])

    def test_no_steps(self):
        for scheme in schemes():
            self.assertEqual(fewest(scheme, 0), [{node: 0 for node in reference.nodes_of(scheme)}])
            told = sparse(scheme, 0)
            if scheme[0] > 0:
                self.assertEqual((told[0], told[2]), (0, []))
                self.assertIn(told[1], reference.nodes_of(scheme))

    def test_no_nodes(self):
        for ending in reference.ENDINGS:
            for rows in (((1, 1),), ((0, 0),), ((0, 1), (0, 0), (1, 1))):
                scheme = (0, (1, 0), rows, ending)
                for steps in (0, 1, 2, 300):
                    self.assertEqual(fewest(scheme, steps), [{}] * (steps + 1))
                    self.assertIsNone(sparse(scheme, steps))
                for ones in (-3, 0, 1, 2, 40):
                    self.assertEqual(rest(scheme, ones), 0)

    def test_none_or_fewer_ones(self):
        for scheme in schemes():
            for ones in (0, -1, -40, -reference.SIXTY):
                self.assertEqual(rest(scheme, ones), 0)


class Fewest(unittest.TestCase):
    def test_against_all_ways(self):
        for scheme in schemes():
            for number, told in enumerate(fewest(scheme, 4)):
                for node in reference.nodes_of(scheme)[::5]:
                    expected = reference.fewest_by_all_ways(scheme, node, number)
                    self.assertEqual(told[node], expected, (scheme, number, node))

    def check(self, scheme, steps):
        told = fewest(scheme, steps)
        self.assertEqual(len(told), steps + 1)
        paces = reference.paces(scheme)
        self.assertEqual(told[0], {node: 0 for node in paces})
        for number in range(1, steps + 1):
            behind = told[number - 1]
            expected = {node: min(ones + behind[led] for ones, led in paces[node]) for node in paces}
            self.assertEqual(told[number], expected, (scheme, number))

    def test_each_number_by_those_behind(self):
        for scheme in schemes():
            for steps in (1, 2, 3, 13):
                self.check(scheme, steps)

    def test_three_hundred_steps(self):
        for scheme in reference.schemes(endings=("ring",)):
            self.check(scheme, 300)


class Sparse(unittest.TestCase):
    def check(self, scheme, steps):
        ones, node, bits = sparse(scheme, steps)
        self.assertIn(node, reference.nodes_of(scheme))
        self.assertEqual(len(bits), steps)
        made = reference.walk(scheme, node, bits)
        self.assertTrue(all(led[1] != 0 for _, led in made), (scheme, node, bits))
        self.assertEqual(sum(sent for sent, _ in made), ones)
        self.assertEqual(ones, least_ones(scheme, steps))

    def test_few_steps(self):
        for scheme in schemes():
            if scheme[0] > 0:
                for steps in (0, 1, 2, 3, 4, 9, 20):
                    self.check(scheme, steps)

    def test_none_from_any_node_sends_fewer(self):
        for scheme in reference.random_schemes(62, 1):
            if scheme[0] > 0:
                for steps in (1, 3, 5):
                    nodes = reference.nodes_of(scheme)
                    least = min(reference.fewest_by_all_ways(scheme, node, steps) for node in nodes)
                    self.assertEqual(sparse(scheme, steps)[0], least)

    def test_three_hundred_steps(self):
        for scheme in reference.schemes(reaches=(1, 2, 3, 4), endings=("open",)):
            self.check(scheme, 300)


class Rest(unittest.TestCase):
    def test_just_so_many_steps_do(self):
        for scheme in schemes():
            ring = quiet(scheme) is not None
            for ones in (1, 2, 3, 5, 12):
                told = rest(scheme, ones)
                if ring or scheme[0] == 0:
                    self.assertEqual(told, None if ring else 0)
                else:
                    self.assertGreaterEqual(least_ones(scheme, told), ones, (scheme, ones))
                    self.assertLess(least_ones(scheme, told - 1), ones, (scheme, ones))

    def test_against_all_ways(self):
        for scheme in reference.random_schemes(63, 4):
            if scheme[0] in (1, 2) and None not in reference.depths(scheme).values():
                nodes = reference.nodes_of(scheme)
                steps = 0
                while steps < 7 and min(reference.fewest_by_all_ways(scheme, node, steps) for node in nodes) < 2:
                    steps += 1
                if steps < 7:
                    self.assertEqual(rest(scheme, 2), steps, scheme)
                else:
                    self.assertGreaterEqual(rest(scheme, 2), 7, scheme)

    def test_forty_ones(self):
        for scheme in reference.random_schemes(64, 3):
            told = rest(scheme, 40)
            if None in reference.depths(scheme).values():
                self.assertIsNone(told)
            elif scheme[0] > 0:
                self.assertGreaterEqual(least_ones(scheme, told), 40)
                self.assertLess(least_ones(scheme, told - 1), 40)

    def test_where_there_is_a_quiet_ring(self):
        for scheme in ((1, (3,), ((1,),), "open"), (4, (31, 1), ((0, 0),), "ended"), (3, (0,), ((1,), (1,)), "ring")):
            self.assertEqual([rest(scheme, ones) for ones in (-1, 0, 1, 2, 40)], [0, 0, None, None, None])


class Kinds(unittest.TestCase):
    def test_kinds(self):
        for scheme in schemes():
            told = fewest(scheme, 3)
            self.assertIs(type(told), list)
            for one in told:
                self.assertIs(type(one), dict)
                self.assertEqual(sorted(one), reference.nodes_of(scheme))
                self.assertTrue(all(type(ones) is int for ones in one.values()))
            told = sparse(scheme, 3)
            if told is not None:
                self.assertIs(type(told), tuple)
                self.assertEqual([type(part) for part in told], [int, tuple, list])
                self.assertTrue(all(type(bit) is int for bit in told[2]))
            self.assertIn(type(rest(scheme, 3)), (int, type(None)))

    def test_by_name(self):
        scheme = (2, (7, 5), ((1, 1),), "ended")
        self.assertEqual(fewest(scheme=scheme, steps=3), fewest(scheme, 3))
        self.assertEqual(sparse(scheme=scheme, steps=3), sparse(scheme, 3))
        self.assertEqual(rest(scheme=scheme, ones=3), rest(scheme, 3))

    def test_told_lists_and_dicts_are_the_askers_own(self):
        for scheme in schemes():
            told = fewest(scheme, 3)
            before = copy.deepcopy(told)
            self.assertEqual(len({id(one) for one in told}), 4)
            for one in told:
                one.clear()
                one["spoiled"] = 7
            told.pop()
            self.assertEqual(fewest(scheme, 3), before)

    def test_told_bits_are_the_askers_own(self):
        for scheme in schemes():
            if scheme[0] > 0:
                for steps in (0, 3):
                    told = sparse(scheme, steps)
                    before = copy.deepcopy(told)
                    told[2].append(9)
                    self.assertEqual(sparse(scheme, steps), before)


if __name__ == "__main__":
    unittest.main()
