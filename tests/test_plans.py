import unittest
from functools import lru_cache
from itertools import product

from chasefloor.chase import is_caught, rank
from chasefloor.errors import Caught, ChaseError, Free, NoStanding
from chasefloor.floors import Floor
from chasefloor.plans import chase_step, flight_step
from tests.helper import (
    NO_STANDINGS_OF_THREE_PLACES, floor_forms, full, line, nears, reckoned_ranks, refusal, ring, standings, star,
    told_everywhere, told_ranks, tried_floors,
)

# Numbers that lie in a list from its end would be places, and three chasers could catch.
NO_STANDINGS_OF_A_RING_OF_FOUR = [
    ([], 2), ([0, 0, 0], 0), ([0, 0, 0], 2), ([0, 1, 2], 2), ([0, 2, 7], 2), ([0, 1, 2, 3, 0], 2),
    ([4], 4), ([-1], -1), ([4, 2], 2), ([2, 4], 2), ([-4, 2], 2), ([2, -1], 2), ([0], -2), ([-4], 2), ([-4], -2),
    ([0], 4), ([0], 100), ([100], 2), ([-100], 2), ([0], -100),
]


def good_steps(near, ranks, chasers, runner):
    """[8] to the letter: every list of next places by which, or behind which, it is as it should be."""
    good = []
    for going in product(*[near[place] for place in chasers]):
        behind = [ranks[(going, fled)] for fled in near[runner]]
        if runner in going or (None not in behind and max(behind) == ranks[(chasers, runner)] - 1):
            good.append(list(going))
    return good


def good_flights(near, ranks, chasers, runner):
    """[9] to the letter: every place behind which the rank is None, else those behind which it is greatest."""
    behind = {place: ranks[(chasers, place)] for place in near[runner]}
    never = [place for place in behind if behind[place] is None]
    return never or [place for place in behind if behind[place] == max(behind.values())]


def due_step(near, ranks, chasers, runner):
    if runner in chasers:
        return Caught
    if ranks[(chasers, runner)] is None:
        return Free
    return min(good_steps(near, ranks, chasers, runner))


def sort_of_step(near, ranks, chasers, runner):
    turns = ranks[(chasers, runner)]
    if not turns:
        return len(chasers), turns
    return len(chasers), turns > 1, len(good_steps(near, ranks, chasers, runner)) > 1


def due_flight(near, ranks, chasers, runner):
    return Caught if runner in chasers else min(good_flights(near, ranks, chasers, runner))


def sort_of_flight(near, ranks, chasers, runner):
    if runner in chasers:
        return None
    good = good_flights(near, ranks, chasers, runner)
    return len(chasers), ranks[(chasers, good[0])] is None, len(good) > 1, min(good) == near[runner][0]


def reckoned_everywhere(reckon):
    for places, doors in tried_floors():
        near = nears(places, doors)
        for count in (1, 2):
            ranks = reckoned_ranks(places, doors, count)
            for chasers, runner in standings(places, count):
                yield places, doors, chasers, runner, reckon(near, ranks, chasers, runner)


class ChaseStepTest(unittest.TestCase):
    def test_lines(self):
        self.assertEqual(chase_step(Floor(*line(2)), [0], 1), [1])
        self.assertEqual(chase_step(Floor(*line(6)), [0], 5), [1])
        self.assertEqual(chase_step(Floor(*line(6)), [5], 0), [4])
        self.assertEqual(chase_step(Floor(*line(6)), [2], 1), [1])

    def test_the_first_list_where_several_are_as_good(self):
        # Either chaser can catch, or both; whoever need not go goes to the least place near.
        self.assertEqual(chase_step(Floor(*full(4)), [0, 1], 3), [0, 3])
        self.assertEqual(chase_step(Floor(*full(4)), [3, 3], 0), [0, 0])
        self.assertEqual(chase_step(Floor(*line(3)), [0, 2], 1), [0, 1])
        self.assertEqual(chase_step(Floor(*star(6)), [5, 0], 4), [0, 4])

    def test_two_chasers_on_rings(self):
        self.assertEqual(chase_step(Floor(*ring(6)), [0, 0], 3), [0, 1])
        self.assertEqual(chase_step(Floor(*ring(4)), [0, 0], 2), [0, 1])
        self.assertEqual(chase_step(Floor(*ring(4)), [2, 2], 0), [1, 2])

    def test_every_standing_is_as_reckoned(self):
        for places, doors, chasers, runner, due in reckoned_everywhere(due_step):
            told = told_everywhere(chase_step, places, doors, len(chasers))
            self.assertEqual(told[(chasers, runner)], due, (places, doors, chasers, runner))

    def test_the_floors_tried_have_standings_of_every_sort(self):
        sorts = {found[-1] for found in reckoned_everywhere(sort_of_step)}
        # Who catches at once alone has one way to, and of two the other one may go where it likes.
        self.assertEqual(sorts, {
            (1, 0), (1, None), (1, False, False), (1, True, False), (1, True, True),
            (2, 0), (2, False, True), (2, True, False), (2, True, True),
        })

    def test_a_step_is_a_list_of_whole_numbers(self):
        for told in (chase_step(Floor(*line(3)), [0], 2), chase_step(Floor(*ring(5)), [0, 0], 2)):
            self.assertIs(type(told), list)
            self.assertEqual({type(place) for place in told}, {int})

    def test_caught(self):
        for floor in (Floor(*line(3)), Floor(*ring(4))):
            for chasers in ([2], [2, 0], [0, 2], [2, 2]):
                self.assertIs(refusal(chase_step, floor, chasers, 2), Caught)
        self.assertIs(refusal(chase_step, Floor(1, []), [0], 0), Caught)
        self.assertIs(refusal(chase_step, Floor(1, []), [0, 0], 0), Caught)

    def test_free(self):
        for places in (4, 5, 6):
            self.assertIs(refusal(chase_step, Floor(*ring(places)), [0], 2), Free)
            self.assertIs(refusal(chase_step, Floor(*ring(places)), [0], 1), None)


class FlightStepTest(unittest.TestCase):
    def test_lines(self):
        self.assertEqual(flight_step(Floor(*line(2)), [0], 1), 1)
        self.assertEqual(flight_step(Floor(*line(6)), [0], 1), 2)
        self.assertEqual(flight_step(Floor(*line(6)), [2], 4), 4)
        self.assertEqual(flight_step(Floor(*line(6)), [5], 3), 2)

    def test_rings(self):
        self.assertEqual(flight_step(Floor(*ring(4)), [0], 1), 2)
        self.assertEqual(flight_step(Floor(*ring(6)), [3], 5), 0)
        self.assertEqual(flight_step(Floor(*ring(6)), [0, 0], 3), 2)
        self.assertEqual(flight_step(Floor(*ring(6)), [0, 3], 1), 1)

    def test_the_first_place_where_several_are_as_good(self):
        self.assertEqual(flight_step(Floor(*ring(6)), [0], 3), 2)
        self.assertEqual(flight_step(Floor(*full(5)), [0], 4), 1)
        self.assertEqual(flight_step(Floor(*full(5)), [1, 0], 4), 2)

    def test_a_place_to_go_to_is_a_chasers(self):
        # The least place near is the chaser's, and there the runner would be caught.
        self.assertEqual(flight_step(Floor(*star(4)), [0], 3), 3)
        self.assertEqual(flight_step(Floor(*line(3)), [0, 2], 1), 1)
        self.assertEqual(flight_step(Floor(*line(4)), [0, 3], 1), 1)

    def test_every_standing_is_as_reckoned(self):
        for places, doors, chasers, runner, due in reckoned_everywhere(due_flight):
            told = told_everywhere(flight_step, places, doors, len(chasers))
            self.assertEqual(told[(chasers, runner)], due, (places, doors, chasers, runner))

    def test_the_floors_tried_have_standings_of_every_sort(self):
        sorts = {found[-1] for found in reckoned_everywhere(sort_of_flight)}
        for count, never in ((1, False), (1, True), (2, False)):
            for wide in product((False, True), repeat=2):
                self.assertIn((count, never) + wide, sorts)

    def test_a_step_is_a_whole_number(self):
        for told in (flight_step(Floor(*line(3)), [0], 2), flight_step(Floor(*ring(5)), [0, 0], 2)):
            self.assertIs(type(told), int)

    def test_caught(self):
        for floor in (Floor(*line(3)), Floor(*ring(4))):
            for chasers in ([2], [2, 0], [0, 2], [2, 2]):
                self.assertIs(refusal(flight_step, floor, chasers, 2), Caught)
        self.assertIs(refusal(flight_step, Floor(1, []), [0], 0), Caught)
        self.assertIs(refusal(flight_step, Floor(1, []), [0, 0], 0), Caught)


class NoStandingTest(unittest.TestCase):
    def test_what_is_no_standing_is_refused_ahead_of_all_else(self):
        for asked in (chase_step, flight_step):
            for chasers, runner in NO_STANDINGS_OF_THREE_PLACES:
                for form in (line, ring):
                    self.assertIs(refusal(asked, Floor(*form(3)), chasers, runner), NoStanding, (chasers, runner))
            for chasers, runner in NO_STANDINGS_OF_A_RING_OF_FOUR:
                self.assertIs(refusal(asked, Floor(*ring(4)), chasers, runner), NoStanding, (chasers, runner))
            self.assertIs(refusal(asked, Floor(1, []), [0, 0, 0], 0), NoStanding)
            self.assertIs(refusal(asked, Floor(1, []), [1], 1), NoStanding)

    def test_each_refusal_is_a_chase_error_and_a_value_error_and_no_other(self):
        kinds = (NoStanding, Caught, Free)
        for given, due in ((([4], 4), NoStanding), (([2], 2), Caught), (([0], 2), Free)):
            with self.assertRaises(ChaseError) as refused:
                chase_step(Floor(*ring(4)), *given)
            self.assertIsInstance(refused.exception, ValueError)
            self.assertEqual([kind for kind in kinds if isinstance(refused.exception, kind)], [due])


class HandedInAndToldTest(unittest.TestCase):
    def test_the_chasers_handed_in_stay_as_they_were(self):
        for asked in (chase_step, flight_step):
            for given, runner in (([0], 4), ([4, 0], 2), ([0, 4], 2), ([3, 3], 1), ([1], 1), ([0, 1, 2], 1), ([9], 0)):
                for form in (line, ring):
                    chasers = list(given)
                    refusal(asked, Floor(*form(5)), chasers, runner)
                    self.assertEqual(chasers, given)

    def test_the_chasers_handed_in_may_be_changed_later(self):
        floor = Floor(*line(5))
        chasers = [0]
        told = chase_step(floor, chasers, 4)
        chasers[0] = 4
        self.assertEqual(told, [1])
        self.assertIs(refusal(chase_step, floor, chasers, 4), Caught)
        chasers.append(0)
        self.assertEqual(chase_step(floor, chasers, 1), [3, 1])
        self.assertEqual(chase_step(floor, [0], 4), [1])

    def test_a_list_told_is_the_askers_own(self):
        floor = Floor(*ring(6))
        # By the first step a chaser stays, so the list handed in and the one told are alike.
        for given, runner in (([0, 3], 2), ([0, 0], 3), ([0], 1)):
            chasers = list(given)
            told = chase_step(floor, chasers, runner)
            before = list(told)
            self.assertIsNot(told, chasers)
            self.assertIsNot(told, chase_step(floor, chasers, runner))
            told[0] = 5
            told.append(9)
            self.assertEqual(chase_step(floor, chasers, runner), before)
            self.assertEqual(chasers, given)
            told.clear()
            self.assertEqual(chase_step(floor, given, runner), before)


class PlannedChaseTest(unittest.TestCase):
    def test_the_plan_catches_within_the_rank_whatever_the_runner_does(self):
        for places, doors in tried_floors():
            near = nears(places, doors)
            for count in (1, 2):
                steps = told_everywhere(chase_step, places, doors, count)

                @lru_cache(maxsize=None)
                def caught_within(chasers, runner, turns):
                    if runner in chasers:
                        return True
                    if turns == 0:
                        return False
                    going = tuple(steps[(chasers, runner)])
                    self.assertTrue(all(there in near[place] for place, there in zip(chasers, going)))
                    return runner in going or all(caught_within(going, fled, turns - 1) for fled in near[runner])

                for (chasers, runner), turns in reckoned_ranks(places, doors, count).items():
                    if turns is not None:
                        self.assertTrue(caught_within(chasers, runner, turns), (places, doors, chasers, runner))

    def test_against_steps_of_flight_the_plan_needs_as_many_turns_as_the_rank(self):
        for places, doors in tried_floors():
            for count in (1, 2):
                for (chasers, runner), turns in reckoned_ranks(places, doors, count).items():
                    if turns is not None:
                        self.assertEqual(self.turns_played(places, doors, chasers, runner, turns), turns)

    def turns_played(self, places, doors, chasers, runner, most):
        steps, flights = [told_everywhere(asked, places, doors, len(chasers)) for asked in (chase_step, flight_step)]
        played = 0
        while runner not in chasers and played <= most:
            chasers = tuple(steps[(chasers, runner)])
            played += 1
            if runner not in chasers:
                runner = flights[(chasers, runner)]
        return played

    def test_a_chase_played_out(self):
        floor = Floor(*line(6))
        chasers, runner, seen = [0], 2, []
        while not is_caught(floor, chasers, runner):
            chasers = chase_step(floor, chasers, runner)
            if not is_caught(floor, chasers, runner):
                runner = flight_step(floor, chasers, runner)
            seen.append((chasers, runner))
        self.assertEqual(seen, [([1], 3), ([2], 4), ([3], 5), ([4], 5), ([5], 5)])


class EndlessFlightTest(unittest.TestCase):
    def test_a_runner_who_flees_from_the_rank_none_keeps_it_whatever_the_chaser_does(self):
        free = 0
        for places, doors in tried_floors() + floor_forms():
            near, ranks = nears(places, doors), told_ranks(places, doors, 1)
            flights = told_everywhere(flight_step, places, doors, 1)
            for ((place,), runner), turns in ranks.items():
                if turns is None:
                    free += 1
                    for going in near[place]:
                        self.assertNotEqual(going, runner)
                        fled = flights[((going,), runner)]
                        self.assertIn(fled, near[runner])
                        self.assertNotEqual(going, fled)
                        self.assertIsNone(ranks[((going,), fled)], (places, doors, going, fled))
        self.assertGreater(free, 500)

    def test_on_rings_of_four_and_more_the_runner_is_never_caught(self):
        for places in (4, 5, 6):
            floor = Floor(*ring(places))
            seen, waiting = set(), [(0, 2)]
            while waiting:
                place, runner = waiting.pop()
                if (place, runner) in seen:
                    continue
                seen.add((place, runner))
                self.assertIsNone(rank(floor, [place], runner))
                for going in floor.near(place):
                    self.assertIs(is_caught(floor, [going], runner), False)
                    fled = flight_step(floor, [going], runner)
                    self.assertIs(is_caught(floor, [going], fled), False)
                    waiting.append((going, fled))
            self.assertGreaterEqual(len(seen), places)
