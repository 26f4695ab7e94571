"""What the document promises over the whole program: the interface, and what is handed in and told."""

import inspect
import unittest

from chasefloor import chase, floors, folds, plans, starts
from chasefloor.floors import Floor
from tests.helper import full, line, ring, standings, star, told_or_refused

INTERFACE = [
    (floors.Floor, ["places", "doors"]),
    (floors.Floor.near, ["self", "place"]),
    (chase.is_standing, ["floor", "chasers", "runner"]),
    (chase.is_caught, ["floor", "chasers", "runner"]),
    (chase.rank, ["floor", "chasers", "runner"]),
    (plans.chase_step, ["floor", "chasers", "runner"]),
    (plans.flight_step, ["floor", "chasers", "runner"]),
    (starts.starts, ["floor", "count"]),
    (folds.folds, ["floor"]),
    (folds.left, ["floor"]),
]
OF_STANDINGS = [chase.is_standing, chase.is_caught, chase.rank, plans.chase_step, plans.flight_step]
SOME_FLOORS = [line(1), line(4), star(4), ring(4), full(4), (5, [(0, 1), (0, 3), (1, 2), (2, 3), (3, 4)])]


def all_told(floor):
    """Everything that the program tells of a floor."""
    told = [floor.near(place) for place in range(floor.places)]
    told += [starts.starts(floor, 1), starts.starts(floor, 2), folds.folds(floor), folds.left(floor)]
    for count in (1, 2):
        for chasers, runner in standings(floor.places, count):
            told += [told_or_refused(asked, floor, chasers, runner) for asked in OF_STANDINGS]
    return told


def lists_in(told):
    """The lists told, also those within a tuple."""
    parts = [part for one in told for part in (one if isinstance(one, tuple) else [one])]
    return [part for part in parts if isinstance(part, list)]


class InterfaceTest(unittest.TestCase):
    def test_names_and_arguments(self):
        for asked, names in INTERFACE:
            self.assertEqual(list(inspect.signature(asked).parameters), names)


class WholeTest(unittest.TestCase):
    def test_no_two_lists_told_are_one(self):
        for form in SOME_FLOORS:
            floor = Floor(*form)
            found = lists_in(all_told(floor) + all_told(floor)) + [floor.doors]
            self.assertEqual(len({id(each) for each in found}), len(found))

    def test_changing_the_lists_told_changes_nothing(self):
        for form in SOME_FLOORS:
            floor = Floor(*form)
            before = repr(all_told(floor))
            for each in lists_in(all_told(floor)):
                each.reverse()
                each.append(99)
            self.assertEqual(repr(all_told(floor)), before)
            self.assertEqual(repr(all_told(Floor(*form))), before)

    def test_asking_changes_no_floor(self):
        for form in SOME_FLOORS:
            floor = Floor(*form)
            before = repr(vars(floor))
            all_told(floor)
            self.assertEqual(repr(vars(floor)), before)
            self.assertEqual((floor.places, floor.doors), form)

    def test_nothing_hangs_on_lists_handed_in_earlier(self):
        for form in SOME_FLOORS:
            before = repr(all_told(Floor(*form)))
            doors = list(form[1])
            floor = Floor(form[0], doors)
            doors.clear()
            chasers = [0, 0]
            for asked in OF_STANDINGS:
                told_or_refused(asked, floor, chasers, 0)
                chasers[0] = floor.places - 1
            self.assertEqual(repr(all_told(floor)), before)

    def test_floors_asked_by_turns_do_not_stand_in_each_others_way(self):
        alone = [repr(all_told(Floor(*form))) for form in SOME_FLOORS]
        together = [Floor(*form) for form in SOME_FLOORS]
        self.assertEqual([repr(all_told(floor)) for floor in reversed(together)], alone[::-1])
        self.assertEqual([repr(all_told(floor)) for floor in together], alone)

    def test_the_modules_keep_nothing(self):
        for module in (chase, floors, folds, plans, starts):
            for name, value in vars(module).items():
                if not name.startswith("__"):
                    self.assertNotIsInstance(value, (list, dict, set), name)
