import copy
import unittest

import reference
from trellisway.quiet import quiet, ranks
from trellisway.rest import rest


def schemes():
    yield from reference.schemes()
    yield from reference.random_schemes(51, 40)


class ByHand(unittest.TestCase):
    def test_a_ring_of_one_node(self):
        # From room 1 the step with 1 leads to room 1 and sends nothing, as both its bits are 1.
        for ending in reference.ENDINGS:
            self.assertEqual(quiet((1, (3,), ((1,),), ending)), [(0, 1)])
            self.assertIsNone(ranks((1, (3,), ((1,),), ending)))

    def test_a_ring_through_all_rows(self):
        told = quiet((1, (3,), ((1,), (1,), (1,)), "open"))
        self.assertIn(told, ([(0, 1), (1, 1), (2, 1)], [(1, 1), (2, 1), (0, 1)], [(2, 1), (0, 1), (1, 1)]))

    def test_a_ring_of_several_rooms(self):
        # Of 0 1 1 0 1 1 .. an even number of each three neighbours are 1, so the tap 7 makes no 1.
        scheme = (2, (7,), ((1,),), "ended")
        self.assertIn(quiet(scheme), ([(0, 1), (0, 3), (0, 2)], [(0, 3), (0, 2), (0, 1)], [(0, 2), (0, 1), (0, 3)]))
        self.assertIsNone(ranks(scheme))

    def test_room_0_is_no_part_of_a_ring(self):
        # By the tap 1 the steps with 0 alone are quiet; they end in room 0.
        for reach in (1, 2, 3, 4):
            scheme = (reach, (1,), ((1,),), "ended")
            self.assertIsNone(quiet(scheme))
            # The newest 1 of the room goes out of it at last.
            expected = {(0, room): reach - (room & -room).bit_length() for room in range(1, 1 << reach)}
            self.assertEqual(ranks(scheme), expected)

    def test_ranks(self):
        # Quiet is the step from room 2 with 1 to room 1 alone.
        scheme = (2, (7, 5), ((1, 1),), "ended")
        self.assertEqual(ranks(scheme), {(0, 1): 0, (0, 2): 1, (0, 3): 0})
        self.assertIsNone(quiet(scheme))

    def test_ranks_by_the_row_of_the_phase(self):
        # The tap 1 sends the bit, at phase 1 alone: there the step with 0 is quiet and leads to room 0.
        scheme = (1, (1,), ((0,), (1,), (0,)), "open")
        self.assertEqual(ranks(scheme), {(0, 1): 1, (1, 1): 0, (2, 1): 2})
        self.assertIsNone(quiet(scheme))

    def test_nothing_is_sent(self):
        for reach in (1, 2, 3, 4):
            for scheme in ((reach, (1, 1), ((0, 0), (0, 0)), "open"), (reach, (0,), ((1,),), "ring")):
                self.assertIsNotNone(quiet(scheme))
                self.assertIsNone(ranks(scheme))

    def test_no_nodes(self):
        for ending in reference.ENDINGS:
            for rows in (((1, 1),), ((0, 0),), ((0, 1), (0, 0), (1, 1))):
                self.assertIsNone(quiet((0, (1, 0), rows, ending)))
                self.assertEqual(ranks((0, (1, 0), rows, ending)), {})


class ManySchemes(unittest.TestCase):
    def check_ring(self, scheme, ring):
        self.assertIs(type(ring), list)
        self.assertGreaterEqual(len(ring), 1)
        self.assertEqual(len(ring), len(set(ring)))
        nodes = reference.nodes_of(scheme)
        paces = reference.paces(scheme)
        for node, led in zip(ring, ring[1:] + ring[:1]):
            self.assertIn(node, nodes)
            self.assertIn((0, led), paces[node], (scheme, ring))

    def test_rings(self):
        for scheme in schemes():
            ring = quiet(scheme)
            if None in reference.depths(scheme).values():
                self.check_ring(scheme, ring)
            else:
                self.assertIsNone(ring, scheme)

    def test_ranks(self):
        for scheme in schemes():
            depths = reference.depths(scheme)
            self.assertEqual(ranks(scheme), None if None in depths.values() else depths, scheme)

    def test_just_one_of_the_two_is_told(self):
        for scheme in schemes():
            self.assertNotEqual(quiet(scheme) is None, ranks(scheme) is None, scheme)

    def test_each_rank_by_those_behind(self):
        for scheme in schemes():
            told = ranks(scheme)
            if told is not None:
                self.assertEqual(sorted(told), reference.nodes_of(scheme))
                for node, steps in reference.paces(scheme).items():
                    behind = [told[led] for ones, led in steps if ones == 0]
                    self.assertEqual(told[node], 1 + max(behind) if behind else 0, (scheme, node))

    def test_behind_the_greatest_rank_a_1_is_sent(self):
        for scheme in schemes():
            depths = reference.depths(scheme).values()
            if depths and None not in depths:
                self.assertEqual(rest(scheme, 1), 1 + max(ranks(scheme).values()), scheme)

    def test_there_are_rings_and_none_of_each_reach_and_number_of_rows(self):
        seen = {(scheme[0], len(scheme[2]), quiet(scheme) is None) for scheme in reference.random_schemes(51, 40)}
        for reach in (1, 2, 3, 4):
            for count in range(1, 7):
                self.assertIn((reach, count, True), seen)
                self.assertIn((reach, count, False), seen)

    def test_the_ending_does_not_count(self):
        for scheme in reference.random_schemes(52, 2):
            told = [ranks(scheme[:3] + (ending,)) for ending in reference.ENDINGS]
            self.assertEqual(told, told[:1] * 3)
            told = [quiet(scheme[:3] + (ending,)) is None for ending in reference.ENDINGS]
            self.assertEqual(told, told[:1] * 3)


class Kinds(unittest.TestCase):
    def check_node(self, node):
        self.assertIs(type(node), tuple)
        self.assertEqual([type(part) for part in node], [int, int])

    def test_kinds(self):
        for scheme in schemes():
            for node in quiet(scheme) or []:
                self.check_node(node)
            told = ranks(scheme)
            if told is not None:
                self.assertIs(type(told), dict)
                for node, rank in told.items():
                    self.check_node(node)
                    self.assertIs(type(rank), int)

    def test_by_name(self):
        scheme = (2, (7, 5), ((1, 1),), "ended")
        self.assertEqual((quiet(scheme=scheme), ranks(scheme=scheme)), (quiet(scheme), ranks(scheme)))

    def test_told_lists_and_dicts_are_the_askers_own(self):
        for scheme in schemes():
            for ask in (quiet, ranks):
                told = ask(scheme)
                before = copy.deepcopy(told)
                if told is not None:
                    told.clear()
                self.assertEqual(ask(scheme), before)


if __name__ == "__main__":
    unittest.main()
