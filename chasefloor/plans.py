"""Plans: how the chasers are to go, and how the runner is to flee."""

from chasefloor.chase import choices, greatest_rank, is_caught, rank_table
from chasefloor.errors import Caught, Free


def chase_step(floor, chasers, runner):
    refuse_caught(floor, chasers, runner)
    table = rank_table(floor, len(chasers))
    turns = table[tuple(chasers)][runner]
    if turns is None:
        raise Free(f"chasers on {chasers} never catch the runner on {runner}")
    flights = floor.near(runner)
    goings = choices([floor.near(place) for place in chasers])
    steps = [going for going in goings if runner in going or rank_behind(table[going], flights) == turns - 1]
    return list(steps[0])


def flight_step(floor, chasers, runner):
    refuse_caught(floor, chasers, runner)
    ranks = rank_table(floor, len(chasers))[tuple(chasers)]
    flights = floor.near(runner)
    greatest = rank_behind(ranks, flights)
    steps = [place for place in flights if ranks[place] == greatest]
    return steps[0]


def refuse_caught(floor, chasers, runner):
    if is_caught(floor, chasers, runner):
        raise Caught(f"chasers on {chasers} have caught the runner on {runner} already")


def rank_behind(ranks, flights):
    return greatest_rank([ranks[place] for place in flights])
