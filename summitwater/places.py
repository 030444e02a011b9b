"""The places of a canal, each by itself."""

from summitwater.kinds import is_between, is_tuple

END = ("end",)
CHAMBER = ("chamber",)
MOST_BRIM = 9
MOST_ROOM = 4
MOST_PRICE = 99


def is_pound(thing):
    """Tell whether a thing is a pound."""
    if not is_tuple(thing, 5):
        return False
    word, brim, deep, room, price = thing
    if word != "pound" or not is_between(brim, 1, MOST_BRIM):
        return False
    if not is_between(deep, 0, brim) or not is_between(room, 1, MOST_ROOM):
        return False
    return price is None or is_between(price, 0, MOST_PRICE)
