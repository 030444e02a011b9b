"""Stands: where the water is and where the barges are."""

from summitwater.kinds import is_tuple, is_whole
from summitwater.places import holds, most_water

MOST_BARGES = 60


def is_stand(canal, thing):
    """Tell whether a thing is a stand of a canal."""
    places = canal[0]
    if not is_tuple(thing, 3):
        return False
    if not all([are_counts(row, len(places)) for row in thing]):
        return False
    levels, rights, lefts = thing
    for number, place in enumerate(places):
        if levels[number] > most_water(place) or not holds(place, rights[number] + lefts[number]):
            return False
    return sum(rights) + sum(lefts) <= MOST_BARGES


def are_counts(thing, many):
    """Tell whether a thing is a tuple of so many whole numbers from 0 on."""
    return is_tuple(thing, many) and all([is_whole(number) and number >= 0 for number in thing])


def is_through(canal, stand):
    """Tell whether all barges of a stand are through."""
    last = len(canal[0]) - 1
    rights, lefts = stand[1], stand[2]
    return sum(rights[:last]) == 0 and sum(lefts[1:]) == 0


def turned_stand(stand):
    """Tell the stand as it is seen from the other side."""
    levels, rights, lefts = stand
    return (levels[::-1], lefts[::-1], rights[::-1])


def barges_of(stand, word):
    """Tell how many barges that go this way there are at each place."""
    return stand[1] if word == "right" else stand[2]


def with_barges(stand, word, row):
    """Tell the stand with other numbers of barges that go this way."""
    levels, rights, lefts = stand
    return (levels, row, lefts) if word == "right" else (levels, rights, row)


def with_more(row, place, many):
    """Tell the row of numbers with so many more at a place, or fewer, where many is below 0."""
    return row[:place] + (row[place] + many,) + row[place + 1:]
