"""Stretches of days, and what shows that one dries a pool from every level."""

from summitwater.kinds import is_between, is_tuple, is_whole


def stretch_sum(days, first, many):
    """Tell the sum of what so many days bring, from one of the round's days on, round by round."""
    rounds, rest = divmod(many, len(days))
    return rounds * sum(days) + sum((days + days)[first:first + rest])


def shows_dry(brim, days, thing):
    """Tell whether a thing is a tuple ("dries", first, many) of a stretch that dries a pool from every level."""
    if not is_tuple(thing, 3) or thing[0] != "dries":
        return False
    word, first, many = thing
    if not is_between(first, 0, len(days) - 1) or not is_whole(many) or many < 1:
        return False
    return stretch_sum(days, first, many) < -brim
