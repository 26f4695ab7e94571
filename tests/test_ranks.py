import unittest

from chasefloor.chase import rank
from chasefloor.floors import Floor
from tests.helper import (
    all_floors, floor_forms, full, larger_forms, line, nears, rank_by_the_ones_behind, reckoned_ranks, renumbered,
    ring, standings, star, told_ranks,
)


class RankTest(unittest.TestCase):
    def ranks(self, floor, chasers):
        return [rank(floor, chasers, runner) for runner in range(floor.places)]

    def test_one_place(self):
        self.assertEqual(rank(Floor(1, []), [0], 0), 0)
        self.assertEqual(rank(Floor(1, []), [0, 0], 0), 0)

    def test_a_rank_is_a_whole_number_and_no_truth_value(self):
        floor = Floor(*line(3))
        for runner in range(3):
            self.assertIs(type(rank(floor, [0], runner)), int)

    def test_lines_with_one_chaser(self):
        self.assertEqual(self.ranks(Floor(*line(2)), [0]), [0, 1])
        self.assertEqual(self.ranks(Floor(*line(3)), [0]), [0, 1, 2])
        self.assertEqual(self.ranks(Floor(*line(6)), [0]), [0, 1, 5, 5, 5, 5])
        self.assertEqual(self.ranks(Floor(*line(6)), [2]), [2, 1, 0, 1, 3, 3])

    def test_lines_with_two_chasers(self):
        self.assertEqual(self.ranks(Floor(*line(6)), [0, 5]), [0, 1, 2, 2, 1, 0])
        self.assertEqual(self.ranks(Floor(*line(6)), [0, 0]), [0, 1, 5, 5, 5, 5])
        self.assertEqual(self.ranks(Floor(*line(6)), [1, 4]), [1, 0, 1, 1, 0, 1])

    def test_rings_with_one_chaser(self):
        self.assertEqual(self.ranks(Floor(*ring(3)), [0]), [0, 1, 1])
        self.assertEqual(self.ranks(Floor(*ring(4)), [0]), [0, 1, None, 1])
        self.assertEqual(self.ranks(Floor(*ring(5)), [0]), [0, 1, None, None, 1])
        self.assertEqual(self.ranks(Floor(*ring(6)), [3]), [None, None, 1, 0, 1, None])

    def test_rings_with_two_chasers(self):
        self.assertEqual(self.ranks(Floor(*ring(4)), [0, 0]), [0, 1, 2, 1])
        self.assertEqual(self.ranks(Floor(*ring(6)), [0, 3]), [0, 1, 1, 0, 1, 1])
        self.assertEqual(self.ranks(Floor(*ring(6)), [0, 0]), [0, 1, 3, 3, 3, 1])

    def test_stars(self):
        self.assertEqual(self.ranks(Floor(*star(6)), [0]), [0, 1, 1, 1, 1, 1])
        self.assertEqual(self.ranks(Floor(*star(6)), [3]), [1, 2, 2, 0, 2, 2])
        self.assertEqual(self.ranks(Floor(*star(6)), [3, 1]), [1, 0, 2, 0, 2, 2])

    def test_floors_with_every_door(self):
        for places in range(2, 7):
            floor = Floor(*full(places))
            self.assertEqual(self.ranks(floor, [0]), [0] + [1] * (places - 1))
            self.assertEqual(self.ranks(floor, [1, 1]), [1, 0] + [1] * (places - 2))

    def test_a_ring_with_a_tail(self):
        floor = Floor(5, [(0, 1), (0, 3), (1, 2), (2, 3), (3, 4)])
        self.assertEqual(self.ranks(floor, [4]), [None, None, None, 1, 0])
        self.assertEqual(self.ranks(floor, [3]), [1, None, 1, 0, 1])

    def test_the_floors_tried_are_all_there_are_but_for_their_numbering(self):
        sizes = [places for places, doors in floor_forms()]
        self.assertEqual([sizes.count(places) for places in range(1, 7)], [1, 1, 2, 6, 21, 112])

    def test_rank_at_every_standing_is_as_reckoned_from_point_6(self):
        for places, doors in floor_forms():
            for count in (1, 2):
                self.assertEqual(told_ranks(places, doors, count), reckoned_ranks(places, doors, count))

    def test_rank_at_every_standing_is_as_point_7_tells(self):
        for places, doors in floor_forms():
            near = nears(places, doors)
            for count in (1, 2):
                ranks = told_ranks(places, doors, count)
                for chasers, runner in standings(places, count):
                    self.assertEqual(ranks[(chasers, runner)], rank_by_the_ones_behind(near, ranks, chasers, runner))

    def test_every_numbering_of_small_floors(self):
        for size in range(1, 5):
            for places, doors in all_floors(size):
                for count in (1, 2):
                    told = told_ranks(places, tuple(doors), count)
                    self.assertEqual(told, reckoned_ranks(places, tuple(doors), count))

    def test_other_numberings_of_larger_floors(self):
        for places, doors, numbers in larger_forms():
            floor = Floor(places, renumbered(doors, numbers))
            # One chaser's standings are few; of two chasers' the first ones stand on every pair with place 0.
            for count in (1, 2):
                told = told_ranks(places, doors, count)
                for chasers, runner in list(standings(places, count))[:places * places]:
                    there = rank(floor, [numbers[place] for place in chasers], numbers[runner])
                    self.assertEqual(there, told[(chasers, runner)])


class TwoChasersTest(unittest.TestCase):
    def test_with_two_chasers_the_rank_is_a_whole_number(self):
        for places, doors in floor_forms():
            for told in told_ranks(places, doors, 2).values():
                self.assertIs(type(told), int)

    def test_two_chasers_need_no_more_turns_than_either_alone(self):
        for places, doors in floor_forms():
            alone, both = told_ranks(places, doors, 1), told_ranks(places, doors, 2)
            for (chasers, runner), told in both.items():
                for place in chasers:
                    if alone[((place,), runner)] is not None:
                        self.assertLessEqual(told, alone[((place,), runner)])

    def test_the_order_of_two_chasers_does_not_matter(self):
        for places, doors in floor_forms():
            both = told_ranks(places, doors, 2)
            for ((first, second), runner), told in both.items():
                self.assertEqual(told, both[((second, first), runner)])
