import unittest
from functools import lru_cache

from chasefloor.floors import Floor
from chasefloor.folds import folds, left
from chasefloor.starts import starts
from tests.helper import all_floors, floor_forms, full, line, nears, ring, star, tried_floors


def possible_folds(near, places):
    """[12] to the letter: each place of these that can be folded, with each one onto which it can."""
    return [
        (first, second) for first in places for second in places
        if first != second and all(place in near[second] for place in places if place in near[first])
    ]


def reckoned_folds(places, doors):
    near, there, told = nears(places, doors), set(range(places)), []
    while possible_folds(near, there):
        told.append(min(possible_folds(near, there)))
        there.remove(told[-1][0])
    return told, sorted(there)


def sizes_left(places, doors):
    """How many places can be left, over every order of folding."""
    near = nears(places, doors)

    @lru_cache(maxsize=None)
    def sizes(there):
        folded = {first for first, second in possible_folds(near, there)}
        return frozenset().union(*[sizes(there - {place}) for place in folded]) if folded else frozenset([len(there)])

    return sizes(frozenset(range(places)))


def many_floors():
    for size in range(1, 6):
        yield from all_floors(size)
    # Of the many numberings of six places some, and every form.
    for k, form in enumerate(all_floors(6)):
        if k % 19 == 0:
            yield form
    for places, doors in floor_forms() + tried_floors():
        yield places, list(doors)


class FoldsTest(unittest.TestCase):
    def assert_folds(self, form, told, places_left):
        floor = Floor(*form)
        self.assertEqual(folds(floor), told)
        self.assertEqual(left(floor), places_left)

    def test_one_place(self):
        self.assert_folds((1, []), [], [0])

    def test_lines(self):
        self.assert_folds(line(2), [(0, 1)], [1])
        self.assert_folds(line(4), [(0, 1), (1, 2), (2, 3)], [3])
        self.assert_folds((4, [(0, 1), (0, 2), (1, 3)]), [(2, 0), (0, 1), (1, 3)], [3])

    def test_a_place_that_could_not_be_folded_may_be_later(self):
        self.assert_folds(star(4), [(1, 0), (2, 0), (0, 3)], [3])

    def test_floors_with_every_door(self):
        self.assert_folds(ring(3), [(0, 1), (1, 2)], [2])
        self.assert_folds(full(6), [(0, 1), (1, 2), (2, 3), (3, 4), (4, 5)], [5])

    def test_rings_of_four_and_more(self):
        for places in (4, 5, 6):
            self.assert_folds(ring(places), [], list(range(places)))

    def test_a_ring_with_a_tail(self):
        self.assert_folds((5, [(0, 1), (0, 3), (1, 2), (2, 3), (3, 4)]), [(4, 3)], [0, 1, 2, 3])
        self.assert_folds((6, [(0, 1), (1, 2), (2, 3), (2, 5), (3, 4), (4, 5)]), [(0, 1), (1, 2)], [2, 3, 4, 5])

    def test_a_ring_with_a_hub(self):
        spokes = [(place, 5) for place in range(5)]
        self.assert_folds((6, sorted(ring(5)[1] + spokes)), [(0, 5), (1, 2), (2, 3), (3, 4), (4, 5)], [5])

    def test_what_is_told_is_as_reckoned(self):
        for places, doors in many_floors():
            floor = Floor(places, doors)
            self.assertEqual((folds(floor), left(floor)), reckoned_folds(places, doors), (places, doors))

    def test_the_kinds_told(self):
        for form in (star(5), ring(4), line(1)):
            told, places_left = folds(Floor(*form)), left(Floor(*form))
            self.assertEqual((type(told), type(places_left)), (list, list))
            self.assertEqual([type(place) for place in places_left], [int] * len(places_left))
            for fold in told:
                self.assertIs(type(fold), tuple)
                self.assertEqual([type(place) for place in fold], [int, int])

    def test_the_lists_told_are_the_askers_own(self):
        for form in (star(4), ring(4), line(1)):
            floor = Floor(*form)
            for asked in (folds, left):
                told, before = asked(floor), asked(floor)
                self.assertIsNot(told, before)
                told.append((9, 9))
                told[0] = (8, 8)
                self.assertEqual(asked(floor), before)
                told.clear()
                self.assertEqual(asked(floor), before)


class PlacesLeftTest(unittest.TestCase):
    def test_as_many_are_left_whichever_place_is_folded_each_time(self):
        for places, doors in many_floors():
            self.assertEqual(sizes_left(places, doors), {len(left(Floor(places, doors)))}, (places, doors))

    def test_one_chaser_is_enough_just_where_one_place_is_left(self):
        enough = []
        for places, doors in many_floors():
            floor = Floor(places, doors)
            enough.append(len(left(floor)) == 1)
            self.assertIs(starts(floor, 1) is not None, enough[-1], (places, doors))
        self.assertGreater(enough.count(True), 100)
        self.assertGreater(enough.count(False), 100)
