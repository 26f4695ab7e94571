import unittest
from itertools import product

from chasefloor.errors import Caught, ChaseError, Free, NoFloor, NoNumber, NoStanding
from chasefloor.floors import Floor
from chasefloor.starts import starts
from tests.helper import all_floors, floor_forms, full, line, reckoned_ranks, refusal, ring, star, tried_floors


def good_starts(places, ranks, count):
    """[11] to the letter: every list of places by which the turns are no more than they need, and the turns."""
    greatest = {}
    for chasers in product(range(places), repeat=count):
        over_all = [ranks[(chasers, runner)] for runner in range(places)]
        if None not in over_all:
            greatest[chasers] = max(over_all)
    turns = min(greatest.values(), default=None)
    return [list(chasers) for chasers in greatest if greatest[chasers] == turns], turns


def reckoned_start(places, doors, count):
    good, turns = good_starts(places, reckoned_ranks(places, tuple(doors), count), count)
    return (min(good), turns) if good else None


class StartsTest(unittest.TestCase):
    def assert_starts(self, form, one, two):
        floor = Floor(*form)
        self.assertEqual((starts(floor, 1), starts(floor, 2)), (one, two))

    def test_one_place(self):
        self.assert_starts((1, []), ([0], 0), ([0, 0], 0))

    def test_lines(self):
        self.assert_starts(line(2), ([0], 1), ([0, 1], 0))
        self.assert_starts(line(3), ([1], 1), ([0, 1], 1))
        self.assert_starts(line(4), ([1], 2), ([0, 2], 1))
        self.assert_starts(line(6), ([2], 3), ([1, 4], 1))

    def test_rings(self):
        self.assert_starts(ring(3), ([0], 1), ([0, 0], 1))
        self.assert_starts(ring(4), None, ([0, 1], 1))
        self.assert_starts(ring(5), None, ([0, 2], 1))
        self.assert_starts(ring(6), None, ([0, 3], 1))

    def test_stars(self):
        self.assert_starts(star(6), ([0], 1), ([0, 0], 1))
        self.assert_starts((6, [(k, 5) for k in range(5)]), ([5], 1), ([0, 5], 1))

    def test_floors_with_every_door(self):
        for places in range(3, 7):
            self.assert_starts(full(places), ([0], 1), ([0, 0], 1))

    def test_a_ring_with_a_tail(self):
        self.assert_starts((5, [(0, 1), (0, 3), (1, 2), (2, 3), (3, 4)]), None, ([0, 3], 1))

    def test_what_is_told_is_as_reckoned(self):
        for places, doors in tried_floors() + floor_forms():
            floor = Floor(places, list(doors))
            for count in (1, 2):
                self.assertEqual(starts(floor, count), reckoned_start(places, doors, count), (places, doors, count))

    def test_one_chaser_on_every_numbering_of_five_places(self):
        for places, doors in all_floors(5):
            self.assertEqual(starts(Floor(places, doors), 1), reckoned_start(places, doors, 1), (places, doors))

    def test_the_floors_tried_are_of_every_sort(self):
        sorts = []
        for places, doors in tried_floors():
            for count in (1, 2):
                good, turns = good_starts(places, reckoned_ranks(places, doors, count), count)
                sorts.append((count, turns, len(good) > 1))
        # Two chasers may change places, so with two there are nearly always several.
        for sort in ((1, 0, False), (1, 1, False), (1, 1, True), (1, 2, True), (1, 3, True), (2, 1, True), (2, 2, True)):
            self.assertIn(sort, sorts)
        self.assertGreater(sorts.count((1, None, False)), 20)

    def test_two_are_always_enough(self):
        for size in range(1, 6):
            for places, doors in all_floors(size):
                self.assertIsNotNone(starts(Floor(places, doors), 2))
        for places, doors in floor_forms():
            self.assertIsNotNone(starts(Floor(places, list(doors)), 2))

    def test_the_kinds_told(self):
        for count in (1, 2):
            told = starts(Floor(*line(5)), count)
            self.assertIs(type(told), tuple)
            self.assertEqual([type(part) for part in told], [list, int])
            self.assertEqual([type(place) for place in told[0]], [int] * count)


class CountTest(unittest.TestCase):
    def test_a_count_that_is_not_one_or_two_is_refused(self):
        for form in ((1, []), line(2), ring(4), full(6)):
            floor = Floor(*form)
            for count in (0, 3, 4, 6, 100, 101, -1, -2, -3, -100):
                self.assertIs(refusal(starts, floor, count), NoNumber, count)

    def test_the_refusal_is_a_chase_error_and_a_value_error_and_no_other(self):
        with self.assertRaises(ChaseError) as refused:
            starts(Floor(*ring(4)), 3)
        self.assertIsInstance(refused.exception, ValueError)
        for kind in (NoFloor, NoStanding, Caught, Free):
            self.assertNotIsInstance(refused.exception, kind)


class ToldTest(unittest.TestCase):
    def test_a_list_told_is_the_askers_own(self):
        floor = Floor(*line(6))
        for count, due in ((1, ([2], 3)), (2, ([1, 4], 1))):
            told = starts(floor, count)
            self.assertIsNot(told[0], starts(floor, count)[0])
            told[0][0] = 5
            told[0].append(9)
            self.assertEqual(starts(floor, count), due)
            told[0].clear()
            self.assertEqual(starts(floor, count), due)
