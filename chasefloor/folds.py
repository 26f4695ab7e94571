"""Folds: a place is folded onto another one from which everything near it is near, too."""


def folds(floor):
    places = list(range(floor.places))
    told = []
    fold = first_fold(floor, places)
    while fold is not None:
        told.append(fold)
        places = [place for place in places if place != fold[0]]
        fold = first_fold(floor, places)
    return told


def left(floor):
    folded = [fold[0] for fold in folds(floor)]
    return [place for place in range(floor.places) if place not in folded]


def first_fold(floor, places):
    for place in places:
        goals = [other for other in places if can_be_folded(floor, places, place, other)]
        if len(goals) > 0:
            return (place, goals[0])
    return None


def can_be_folded(floor, places, place, other):
    # Everything near a place is near that place, but a fold onto itself would leave all as it was.
    if place == other:
        return False
    near_other = floor.near(other)
    return all([near in near_other for near in floor.near(place) if near in places])
