import unittest

from chasefloor.chase import is_caught, is_standing, rank
from chasefloor.errors import NoStanding
from chasefloor.floors import Floor
from tests.helper import NO_STANDINGS_OF_THREE_PLACES, full, line, ring, standings, star


class StandingTest(unittest.TestCase):
    def test_every_one_or_two_places_and_the_runners_are_a_standing(self):
        for floor in (Floor(1, []), Floor(*line(3)), Floor(*star(4)), Floor(*ring(6))):
            for count in (1, 2):
                for chasers, runner in standings(floor.places, count):
                    self.assertIs(is_standing(floor, list(chasers), runner), True)

    def test_what_is_no_standing(self):
        for form in (line, ring, full):
            floor = Floor(*form(3))
            for chasers, runner in NO_STANDINGS_OF_THREE_PLACES:
                self.assertIs(is_standing(floor, chasers, runner), False)

    def test_the_last_place_is_one_and_the_next_number_is_none(self):
        for places in range(1, 7):
            floor = Floor(*line(places))
            last = places - 1
            self.assertIs(is_standing(floor, [last, last], last), True)
            self.assertIs(is_standing(floor, [places], last), False)
            self.assertIs(is_standing(floor, [last, places], last), False)
            self.assertIs(is_standing(floor, [last], places), False)

    def test_what_is_no_standing_is_refused(self):
        floor = Floor(*line(3))
        for asked in (is_caught, rank):
            for chasers, runner in NO_STANDINGS_OF_THREE_PLACES:
                with self.assertRaises(ValueError) as refused:
                    asked(floor, chasers, runner)
                self.assertIs(type(refused.exception), NoStanding)

    def test_the_chasers_of_a_refused_standing_stay_as_they_were(self):
        floor = Floor(*line(3))
        for asked in (is_caught, rank):
            chasers = [2, 1, 0]
            self.assertRaises(NoStanding, asked, floor, chasers, 0)
            self.assertEqual(chasers, [2, 1, 0])


class CaughtTest(unittest.TestCase):
    def test_one_chaser(self):
        floor = Floor(*line(3))
        self.assertIs(is_caught(floor, [1], 1), True)
        self.assertIs(is_caught(floor, [1], 0), False)
        self.assertIs(is_caught(Floor(1, []), [0], 0), True)

    def test_two_chasers(self):
        floor = Floor(*line(4))
        self.assertIs(is_caught(floor, [3, 1], 3), True)
        self.assertIs(is_caught(floor, [3, 1], 1), True)
        self.assertIs(is_caught(floor, [3, 1], 2), False)

    def test_two_chasers_on_one_place(self):
        floor = Floor(*line(3))
        self.assertIs(is_caught(floor, [2, 2], 2), True)
        self.assertIs(is_caught(floor, [2, 2], 1), False)

    def test_caught_just_where_a_chaser_stands(self):
        for floor in (Floor(*star(4)), Floor(*ring(5))):
            for count in (1, 2):
                for chasers, runner in standings(floor.places, count):
                    self.assertIs(is_caught(floor, list(chasers), runner), chasers.count(runner) > 0)


class HandedInTest(unittest.TestCase):
    def test_the_chasers_handed_in_stay_as_they_were(self):
        floor = Floor(*line(5))
        for asked in (is_standing, is_caught, rank):
            for given in ([4, 0], [0, 4], [3, 3], [1]):
                chasers = list(given)
                asked(floor, chasers, 2)
                self.assertEqual(chasers, given)

    def test_the_chasers_handed_in_may_be_changed_later(self):
        floor = Floor(*line(5))
        chasers = [0]
        self.assertEqual(rank(floor, chasers, 4), 4)
        chasers[0] = 4
        self.assertIs(is_caught(floor, chasers, 4), True)
        self.assertEqual(rank(floor, chasers, 4), 0)
        chasers.append(0)
        self.assertEqual(rank(floor, chasers, 1), 1)
        self.assertEqual(rank(floor, [0], 4), 4)

    def test_the_floor_handed_in_stays_as_it_was(self):
        floor = Floor(*ring(5))
        before = {name: repr(value) for name, value in vars(floor).items()}
        for chasers in ([0], [0, 1]):
            is_standing(floor, chasers, 3)
            is_caught(floor, chasers, 3)
            rank(floor, chasers, 3)
        self.assertEqual({name: repr(value) for name, value in vars(floor).items()}, before)
