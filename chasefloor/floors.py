"""Floors: places, and the doors between them."""

from chasefloor.errors import NoFloor, NoStanding

MOST_PLACES = 6


class Floor:
    def __init__(self, places, doors):
        if places < 1 or places > MOST_PLACES:
            raise NoFloor(f"a floor has 1 to {MOST_PLACES} places, not {places}")
        for door in doors:
            if not is_door(places, door):
                raise NoFloor(f"{door} is no door, the lesser place first, of a floor of {places} places")
        if not is_rising(doors):
            raise NoFloor("the list of doors is not rising")
        if len(reached_places(places, doors)) < places:
            raise NoFloor("not every place can be come to through doors")
        self.places = places
        # The list handed in may be changed later, so it isn't kept.
        self.doors = list(doors)

    def has_place(self, place):
        return 0 <= place < self.places

    def near(self, place):
        if not self.has_place(place):
            raise NoStanding(f"{place} is no place of the floor")
        return near_places(self.places, self.doors, place)


def is_door(places, door):
    return 0 <= door[0] < door[1] < places


def is_rising(doors):
    return all([doors[k] < doors[k + 1] for k in range(len(doors) - 1)])


def near_places(places, doors, place):
    return [other for other in range(places) if is_near(doors, place, other)]


def is_near(doors, place, other):
    return place == other or (place, other) in doors or (other, place) in doors


def reached_places(places, doors):
    reached = [0]
    # Each round passes one more door, and no way that is needed comes to a place twice.
    for passed in range(places - 1):
        reached = [place for place in range(places) if is_near_one(doors, place, reached)]
    return reached


def is_near_one(doors, place, others):
    return any([is_near(doors, place, other) for other in others])
