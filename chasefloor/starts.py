"""Starts: whether so many chasers are enough for a floor, and where they are to begin."""

from chasefloor.chase import MOST_CHASERS, greatest_rank, rank_table
from chasefloor.errors import NoNumber


def starts(floor, count):
    if count < 1 or count > MOST_CHASERS:
        raise NoNumber(f"there are 1 to {MOST_CHASERS} chasers, not {count}")
    table = rank_table(floor, count)
    enough = [chasers for chasers in table if greatest_rank(table[chasers]) is not None]
    if len(enough) == 0:
        return None
    # Of equals min takes the first one, and the table is in the order of lists.
    first = min(enough, key=lambda chasers: greatest_rank(table[chasers]))
    return (list(first), greatest_rank(table[first]))
