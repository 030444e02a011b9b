"""Canals: which things are one, their gates' sides, and a canal seen from its other side."""

from summitwater.kinds import is_tuple
from summitwater.places import CHAMBER, END, is_pound

LEAST_PLACES = 3
MOST_PLACES = 13
UP = "up"
DOWN = "down"


def is_canal(thing):
    """Tell whether a thing is a canal."""
    if not is_tuple(thing, 2):
        return False
    places, gates = thing
    return are_places(places) and are_gates(gates, len(places) - 1)


def are_places(thing):
    """Tell whether a thing is a canal's places."""
    if not isinstance(thing, tuple) or not LEAST_PLACES <= len(thing) <= MOST_PLACES:
        return False
    if thing[0] != END or thing[-1] != END:
        return False
    if not all([place == CHAMBER or is_pound(place) for place in thing[1:-1]]):
        return False
    return all([left == CHAMBER or right == CHAMBER for left, right in zip(thing, thing[1:])])


def are_gates(thing, many):
    """Tell whether a thing is so many gates."""
    return is_tuple(thing, many) and all([gate == UP or gate == DOWN for gate in thing])


def higher(canal, gate):
    """Tell the number of the higher place of a gate."""
    return gate + 1 if canal[1][gate] == UP else gate


def lower(canal, gate):
    """Tell the number of the lower place of a gate."""
    return gate if canal[1][gate] == UP else gate + 1


def turned_canal(canal):
    """Tell the canal as it is seen from its other side."""
    places, gates = canal
    return (places[::-1], tuple([DOWN if gate == UP else UP for gate in gates[::-1]]))
