"""Worths: numbers of open stands that bear out what a trade costs at the least, or gains at the most."""

from summitwater.deeds import steps_by
from summitwater.kinds import is_tuple, is_whole
from summitwater.opened import is_open, open_done


def bears_ring(canal, stand, price, gain, thing):
    """Tell whether a thing is worths that bear out a price and a gain from a stand."""
    if not are_worths(canal, thing):
        return False
    numbers = {one: number for one, number in thing}
    return len(numbers) == len(thing) and stand in numbers and keep_up(canal, numbers, price, gain)


def bears_most(canal, stand, most, thing):
    """Tell whether a thing is worths that bear out a most gain from a stand."""
    if not are_worths(canal, thing) or not all([number >= 0 for one, number in thing]):
        return False
    # What falls by each gain at least, whatever is paid, rises so with the other sign.
    numbers = {one: -number for one, number in thing}
    if len(numbers) < len(thing) or stand not in numbers:
        return False
    return numbers[stand] == -most and keep_up(canal, numbers, 1, 0)


def are_worths(canal, thing):
    """Tell whether a thing is a list of tuples of an open stand and a whole number, perhaps a stand twice."""
    return isinstance(thing, list) and all([is_worth(canal, part) for part in thing])


def is_worth(canal, thing):
    """Tell whether a thing is a tuple of an open stand and a whole number."""
    return is_tuple(thing, 2) and is_open(canal, thing[0]) and is_whole(thing[1])


def keep_up(canal, numbers, price, gain):
    """Tell whether behind each deed there is a number, high enough for a price for each so many gained."""
    for one, number in numbers.items():
        for deed, behind, paid, gained in steps_by(canal, one, open_done):
            if behind not in numbers or gain * paid + numbers[behind] < price * gained + number:
                return False
    return True
