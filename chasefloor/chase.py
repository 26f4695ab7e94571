"""The chase: standings, when the runner is caught, and how soon that can be."""

from chasefloor.errors import NoStanding

MOST_CHASERS = 2


def is_standing(floor, chasers, runner):
    if len(chasers) < 1 or len(chasers) > MOST_CHASERS:
        return False
    return floor.has_place(runner) and all([floor.has_place(place) for place in chasers])


def is_caught(floor, chasers, runner):
    if not is_standing(floor, chasers, runner):
        raise NoStanding(f"chasers on {chasers} and the runner on {runner} are no standing of the floor")
    return runner in chasers


def rank(floor, chasers, runner):
    if is_caught(floor, chasers, runner):
        return 0
    table = rank_table(floor, len(chasers))
    return table[tuple(chasers)][runner]


# One rank hangs on others, so all are reckoned at once: by the chasers' places, then by the runner's.
def rank_table(floor, count):
    places = list(range(floor.places))
    near = [floor.near(place) for place in places]
    table = {}
    for chasers in choices([places for chaser in range(count)]):
        table[chasers] = [0 if runner in chasers else None for runner in places]
    turns = 1
    wider = widened(near, table, turns)
    # A round without a new rank leaves the next one nothing to build on, so no rank is greater.
    while wider != table:
        table = wider
        turns = turns + 1
        wider = widened(near, table, turns)
    return table


# The table holds every rank below turns, so a standing that can be brought into it has the rank turns.
def widened(near, table, turns):
    lost = {}
    for chasers in table:
        lost[chasers] = lost_runners(near, table[chasers])
    wider = {}
    for chasers in table:
        goings = choices([near[place] for place in chasers])
        wider[chasers] = widened_ranks(table[chasers], [lost[going] for going in goings], turns)
    return wider


def widened_ranks(ranks, lost_by_going, turns):
    wider = []
    for runner, known in enumerate(ranks):
        if known is None and any([runner in lost for lost in lost_by_going]):
            wider.append(turns)
        else:
            wider.append(known)
    return wider


def lost_runners(near, ranks):
    return [runner for runner in range(len(ranks)) if is_lost(near, ranks, runner)]


def is_lost(near, ranks, runner):
    # A caught runner has no turn any more, so where it could have gone doesn't count.
    if ranks[runner] == 0:
        return True
    return all([ranks[place] is not None for place in near[runner]])


# Never to be caught is more than any number of turns.
def greatest_rank(ranks):
    return None if None in ranks else max(ranks)


# The lists are rising, so the tuples come in the order of lists.
def choices(place_lists):
    found = [()]
    for places in place_lists:
        longer = []
        for begun in found:
            longer.extend([begun + (place,) for place in places])
        found = longer
    return found
