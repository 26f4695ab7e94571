"""Floors to try, and ranks reckoned anew from the words of the document, without the package."""

from functools import lru_cache
from itertools import combinations, permutations, product

from chasefloor.chase import rank
from chasefloor.floors import Floor

NO_STANDINGS_OF_THREE_PLACES = [
    ([], 0),
    ([0, 1, 2], 0),
    ([0, 0, 0], 0),
    ([0, 0, 0], 1),
    ([0, 1, 2, 0], 1),
    ([0, 1, 2, 0, 1], 1),
    ([3], 0),
    ([100], 0),
    ([-1], 0),
    ([-100], 0),
    ([0, 3], 1),
    ([3, 0], 1),
    ([0, -1], 1),
    ([-1, 0], 1),
    ([-1, -1], 1),
    ([0], 3),
    ([0], 100),
    ([0], -1),
    ([0], -100),
    ([0, 1], 3),
    ([0, 1], -1),
    ([3], 3),
    ([-1], -1),
    ([], 3),
]


def refusal(asked, *given):
    """The very class of the refusal, or None where there is none."""
    try:
        asked(*given)
    except ValueError as refused:
        return type(refused)
    return None


def line(places):
    return places, [(k, k + 1) for k in range(places - 1)]


def ring(places):
    return places, sorted([(k, k + 1) for k in range(places - 1)] + [(0, places - 1)])


def star(places):
    return places, [(0, k) for k in range(1, places)]


def full(places):
    return places, list(combinations(range(places), 2))


def nears(places, doors):
    return [sorted({place} | {a + b - place for a, b in doors if place in (a, b)}) for place in range(places)]


def is_connected(places, doors):
    near = nears(places, doors)
    seen, waiting = {0}, [0]
    while waiting:
        for place in near[waiting.pop()]:
            if place not in seen:
                seen.add(place)
                waiting.append(place)
    return len(seen) == places


def all_floors(places):
    """Every floor of so many places, each numbering of it by itself."""
    pairs = list(combinations(range(places), 2))
    for chosen in product([False, True], repeat=len(pairs)):
        doors = [pair for pair, there in zip(pairs, chosen) if there]
        if is_connected(places, doors):
            yield places, doors


def renumbered(doors, numbers):
    return sorted(tuple(sorted((numbers[a], numbers[b]))) for a, b in doors)


@lru_cache(maxsize=None)
def floor_forms():
    """Every floor of 1 to 6 places, but of those that differ in their numbering only one."""
    forms = []
    for places in range(1, 7):
        pairs = list(combinations(range(places), 2))
        bits = {pair: 1 << k for k, pair in enumerate(pairs)}
        seen = set()
        for mask in range(1 << len(pairs)):
            if mask in seen:
                continue
            doors = [pair for pair in pairs if mask & bits[pair]]
            for numbers in permutations(range(places)):
                seen.add(sum(bits[door] for door in renumbered(doors, numbers)))
            if is_connected(places, doors):
                forms.append((places, tuple(doors)))
    return forms


def larger_forms():
    """The forms of 5 and 6 places, each with other numbers for its places."""
    numberings = {size: list(permutations(range(size))) for size in (5, 6)}
    for k, (places, doors) in enumerate([form for form in floor_forms() if form[0] > 4]):
        yield places, doors, numberings[places][(k * 37 + 1) % len(numberings[places])]


@lru_cache(maxsize=None)
def tried_floors():
    """Every numbering of the floors of up to 4 places, and one of each floor of 5 and of every other one of 6."""
    tried = [(places, tuple(doors)) for size in range(1, 5) for places, doors in all_floors(size)]
    for k, (places, doors, numbers) in enumerate(larger_forms()):
        if places == 5 or k % 2 == 0:
            tried.append((places, tuple(renumbered(doors, numbers))))
    return tried


def standings(places, count):
    for chasers in product(range(places), repeat=count):
        for runner in range(places):
            yield chasers, runner


def told_or_refused(asked, floor, chasers, runner):
    try:
        return asked(floor, list(chasers), runner)
    except ValueError as refused:
        return type(refused)


@lru_cache(maxsize=None)
def told_everywhere(asked, places, doors, count):
    """What the program tells, standing by standing; kept, since several tests look at it."""
    floor = Floor(places, list(doors))
    return {
        (chasers, runner): told_or_refused(asked, floor, chasers, runner)
        for chasers, runner in standings(places, count)
    }


def told_ranks(places, doors, count):
    return told_everywhere(rank, places, doors, count)


@lru_cache(maxsize=None)
def reckoned_ranks(places, doors, count):
    """[6] to the letter: the least number of turns within which the chasers catch, whatever the runner does."""
    near = nears(places, doors)

    @lru_cache(maxsize=None)
    def catch_within(chasers, runner, turns):
        if runner in chasers:
            return True
        if turns == 0:
            return False
        return any(
            runner in going or all(catch_within(going, fled, turns - 1) for fled in near[runner])
            for going in product(*[near[place] for place in chasers])
        )

    def least(chasers, runner):
        # There are no more ranks than standings, for below each rank there is a standing of each lesser one.
        for turns in range(places ** (count + 1) + 1):
            if catch_within(chasers, runner, turns):
                return turns
        return None

    return {(chasers, runner): least(chasers, runner) for chasers, runner in standings(places, count)}


def rank_by_the_ones_behind(near, ranks, chasers, runner):
    """[7] to the letter, with the ranks of the standings behind handed in."""
    if runner in chasers:
        return 0
    goings = list(product(*[near[place] for place in chasers]))
    if any(runner in going for going in goings):
        return 1
    greatest = []
    for going in goings:
        behind = [ranks[(going, fled)] for fled in near[runner]]
        if None not in behind:
            greatest.append(max(behind))
    return min(greatest) + 1 if greatest else None
