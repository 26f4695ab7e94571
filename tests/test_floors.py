import unittest
from itertools import combinations

from chasefloor.chase import rank
from chasefloor.errors import NoFloor, NoStanding
from chasefloor.floors import Floor
from tests.helper import all_floors, full, is_connected, line, nears, ring, star


class FloorTest(unittest.TestCase):
    def assert_no_floor(self, places, doors):
        given = list(doors)
        with self.assertRaises(ValueError) as refused:
            Floor(places, doors)
        self.assertIs(type(refused.exception), NoFloor)
        self.assertEqual(doors, given)

    def test_floors_of_one_to_six_places_have_the_fields_told(self):
        for places in range(1, 7):
            for form in (line, star, full):
                floor = Floor(*form(places))
                self.assertEqual(floor.places, places)
                self.assertEqual(floor.doors, form(places)[1])
                self.assertIs(type(floor.doors), list)

    def test_one_place_without_doors(self):
        floor = Floor(1, [])
        self.assertEqual((floor.places, floor.doors), (1, []))

    def test_too_few_or_too_many_places(self):
        for places in (0, -1, -2, -6, -100, -101):
            self.assert_no_floor(places, [])
            self.assert_no_floor(places, [(0, 1)])
            self.assert_no_floor(places, [(places, 0)])
        for places in (7, 8, 41):
            for form in (line, star):
                self.assert_no_floor(*form(places))
        self.assert_no_floor(7, full(7)[1])
        self.assert_no_floor(100, [])
        self.assert_no_floor(100, line(41)[1])

    def test_door_told_twice(self):
        self.assert_no_floor(2, [(0, 1), (0, 1)])
        self.assert_no_floor(3, [(0, 1), (0, 1), (1, 2)])
        self.assert_no_floor(3, [(0, 1), (1, 2), (1, 2)])
        self.assert_no_floor(3, [(0, 1), (1, 2), (0, 1)])

    def test_door_turned_about(self):
        self.assert_no_floor(2, [(1, 0)])
        self.assert_no_floor(2, [(0, 1), (1, 0)])
        self.assert_no_floor(3, [(0, 1), (2, 1)])
        self.assert_no_floor(3, [(0, 1), (1, 2), (2, 0)])

    def test_door_from_a_place_to_itself(self):
        self.assert_no_floor(1, [(0, 0)])
        self.assert_no_floor(2, [(0, 0), (0, 1)])
        self.assert_no_floor(2, [(0, 1), (1, 1)])

    def test_door_of_a_place_beyond_the_last(self):
        self.assert_no_floor(1, [(0, 1)])
        self.assert_no_floor(2, [(0, 1), (0, 2)])
        self.assert_no_floor(2, [(0, 1), (1, 2)])
        self.assert_no_floor(2, [(0, 1), (2, 3)])
        self.assert_no_floor(6, line(6)[1] + [(5, 6)])
        self.assert_no_floor(3, [(0, 1), (1, 2), (1, 100)])

    def test_door_of_a_place_below_nought(self):
        self.assert_no_floor(1, [(-1, 0)])
        self.assert_no_floor(2, [(-1, 0), (0, 1)])
        self.assert_no_floor(2, [(-1, 1), (0, 1)])
        self.assert_no_floor(3, [(-100, -99), (0, 1), (1, 2)])
        self.assert_no_floor(2, [(0, -1), (0, 1)])

    def test_list_that_is_not_rising(self):
        self.assert_no_floor(3, [(1, 2), (0, 1)])
        self.assert_no_floor(3, [(0, 2), (0, 1)])
        self.assert_no_floor(4, [(0, 1), (2, 3), (1, 2)])
        self.assert_no_floor(6, list(reversed(full(6)[1])))

    def test_places_that_cannot_be_come_to(self):
        self.assert_no_floor(2, [])
        self.assert_no_floor(3, [(0, 1)])
        self.assert_no_floor(3, [(1, 2)])
        self.assert_no_floor(4, [(0, 1), (2, 3)])
        self.assert_no_floor(6, [])
        self.assert_no_floor(6, full(5)[1])
        self.assert_no_floor(6, [(0, 1), (0, 2), (1, 2), (3, 4), (3, 5), (4, 5)])

    def test_every_list_of_doors_is_a_floor_just_where_it_is_connected(self):
        for places in range(1, 6):
            pairs = list(combinations(range(places), 2))
            for size in range(len(pairs) + 1):
                for doors in combinations(pairs, size):
                    if is_connected(places, doors):
                        self.assertEqual(Floor(places, list(doors)).doors, list(doors))
                    else:
                        self.assert_no_floor(places, list(doors))

    def test_the_farthest_places_are_come_to_in_whatever_order_they_lie(self):
        for doors in (line(6)[1], [(0, 5), (1, 2), (1, 3), (2, 4), (4, 5)], [(0, 1), (0, 3), (2, 4), (2, 5), (3, 5)]):
            self.assertEqual(Floor(6, doors).doors, doors)

    def test_the_list_handed_in_is_not_kept(self):
        doors = [(0, 1), (1, 2)]
        floor, other = Floor(3, doors), Floor(3, doors)
        self.assertEqual(doors, [(0, 1), (1, 2)])
        self.assertIsNot(floor.doors, other.doors)
        doors.append((0, 2))
        doors[0] = (1, 0)
        self.assertEqual(floor.doors, [(0, 1), (1, 2)])
        self.assertEqual(other.doors, [(0, 1), (1, 2)])
        doors.clear()
        self.assertEqual([floor.near(place) for place in range(3)], [[0, 1], [0, 1, 2], [1, 2]])
        self.assertEqual(rank(floor, [0], 2), 2)


class NearTest(unittest.TestCase):
    def test_near_on_floors_of_some_forms(self):
        self.assertEqual(Floor(1, []).near(0), [0])
        self.assertEqual([Floor(*line(4)).near(place) for place in range(4)], [[0, 1], [0, 1, 2], [1, 2, 3], [2, 3]])
        self.assertEqual([Floor(*ring(4)).near(place) for place in range(4)],
                         [[0, 1, 3], [0, 1, 2], [1, 2, 3], [0, 2, 3]])
        self.assertEqual([Floor(*star(4)).near(place) for place in range(4)], [[0, 1, 2, 3], [0, 1], [0, 2], [0, 3]])
        self.assertEqual([Floor(*full(3)).near(place) for place in range(3)], [[0, 1, 2]] * 3)

    def test_near_on_every_floor_of_up_to_five_places(self):
        for size in range(1, 6):
            for places, doors in all_floors(size):
                floor = Floor(places, doors)
                self.assertEqual([floor.near(place) for place in range(places)], nears(places, doors))

    def test_a_number_that_is_none_of_its_places_is_refused(self):
        for places in range(1, 7):
            floor = Floor(*line(places))
            for place in (-100, -2, -1, places, places + 1, 100):
                with self.assertRaises(ValueError) as refused:
                    floor.near(place)
                self.assertIs(type(refused.exception), NoStanding)

    def test_a_list_told_is_the_askers_own(self):
        floor = Floor(*ring(4))
        told = floor.near(0)
        self.assertIsNot(told, floor.near(0))
        told.append(2)
        told[0] = 5
        self.assertEqual(floor.near(0), [0, 1, 3])
        self.assertEqual(floor.doors, ring(4)[1])
        self.assertIsNone(rank(floor, [0], 2))
