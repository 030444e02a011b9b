"""The places of a canal, each by itself."""

from summitwater.kinds import is_between, is_tuple

END = ("end",)
CHAMBER = ("chamber",)
MOST_BRIM = 9
MOST_ROOM = 4
MOST_PRICE = 99


def is_pound(thing):
    """Tell whether a thing is a pound."""
    if not is_tuple(thing, 5):
        return False
    word, brim, deep, room, price = thing
    if word != "pound" or not is_between(brim, 1, MOST_BRIM):
        return False
    if not is_between(deep, 0, brim) or not is_between(room, 1, MOST_ROOM):
        return False
    return price is None or is_between(price, 0, MOST_PRICE)


def has_spring(place):
    """Tell whether a place has a spring."""
    return place[0] == "pound" and place[4] is not None


def most_water(place):
    """Tell the highest level of a place."""
    if place == END:
        return 0
    return 1 if place == CHAMBER else place[1]


def is_dry(place, level):
    """Tell whether a place can give no lockful; an end gives without end."""
    return place != END and level == 0


def is_full(place, level):
    """Tell whether a place can take no lockful; an end takes without end."""
    return place != END and level >= most_water(place)


def is_shallow(place, level):
    """Tell whether a place's water is too low for barges, as only a pound's can be."""
    return place[0] == "pound" and level < place[2]


def holds(place, barges):
    """Tell whether a place has room for so many barges in all."""
    if place == END:
        return True
    return barges <= (1 if place == CHAMBER else place[3])
