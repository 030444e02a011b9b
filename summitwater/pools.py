"""Pools through rounds of days: their levels, and whether they last for ever."""

from summitwater.stretches import stretch_sum


def level_behind(brim, days, level, many):
    """Tell the level behind so many days, or the first dry one among them."""
    length = len(days)
    told = day_by_day(brim, days, level, 0, min(many, length))
    if told[0] == "dry" or many <= length:
        return told
    # Behind the first round the level is no higher than each further one can leave it, so these go on evenly.
    level = told[1]
    rounds = min(many // length - 1, even_rounds(days, level, many))
    level = min(most_behind(brim, days), level + rounds * sum(days))
    day = length * (rounds + 1)
    return day_by_day(brim, days, level, day, min(many, day + length))


def day_by_day(brim, days, level, day, end):
    """Tell the level behind the days up to an end, or the first dry one, from a level and a day on."""
    while day < end:
        level = min(brim, level + days[day % len(days)])
        if level < 0:
            return ("dry", day)
        day += 1
    return ("level", level)


def even_rounds(days, level, many):
    """Tell how many rounds are not dry from a level on that the brim doesn't cut, at most so many."""
    spare = level - least_start(days)
    if spare < 0:
        return 0
    if sum(days) >= 0:
        return many
    return spare // -sum(days) + 1


def least_start(days):
    """Tell the least level from which no day of one round is dry, but for the brim."""
    return max(0, -min([sum(days[:many]) for many in range(1, len(days) + 1)]))


def most_behind(brim, days):
    """Tell the highest level that a round can leave: the first day brings the pool to its brim at most."""
    level = brim
    for day in days[1:]:
        level = min(brim, level + day)
    return level


def lasting(brim, days):
    """Tell the least level from which a pool lasts for ever, or a stretch of days that dries it from every level."""
    if sum(days) < 0:
        return ("dries", 0, len(days) * (brim // -sum(days) + 1))
    first, many = deepest(days)
    if stretch_sum(days, first, many) < -brim:
        return ("dries", first, many)
    return ("lasts", least_start(days))


def deepest(days):
    """Tell first and many of a stretch, at most a round long, that takes most."""
    stretches = [(first, many) for first in range(len(days)) for many in range(1, len(days) + 1)]
    return min(stretches, key=lambda stretch: stretch_sum(days, stretch[0], stretch[1]))


def least_brim(days):
    """Tell the least brim with which a pool lasts through a round, or None where none does."""
    if sum(days) < 0:
        return None
    first, many = deepest(days)
    return max(0, -stretch_sum(days, first, many))
