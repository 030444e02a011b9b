"""Rows of deeds, done one by one, and their water."""

from summitwater.canals import higher, lower
from summitwater.deeds import deed_done, is_deed
from summitwater.errors import Falls, SummitError
from summitwater.places import END

MOST_DEEDS = 6000


def is_row(thing):
    """Tell whether a thing is a row of deeds, whether they can be done or not."""
    return isinstance(thing, list) and len(thing) <= MOST_DEEDS and all([is_deed(deed) for deed in thing])


def row_done(canal, stand, deeds):
    """Do a row of deeds: tell the stand behind it, its price and its gain; refused with Falls."""
    return row_by(canal, stand, deeds, deed_done)


def row_by(canal, stand, deeds, done):
    """Do a row of deeds as row_done does, each one by done: deed_done, or one like it."""
    behind = stand
    price = 0
    gain = 0
    for at, deed in enumerate(deeds):
        try:
            behind, paid, gained = done(canal, behind, deed)
        except SummitError:
            raise Falls(at) from None
        price += paid
        gain += gained
    return (behind, price, gain)


def water(canal, stand, deeds):
    """Tell the lockfuls that a row lets out of ends, feeds, and lets into ends; refused with Falls."""
    # What can be done moves one lockful for each let and feed, so its deeds alone tell the water.
    row_done(canal, stand, deeds)
    places = canal[0]
    came = 0
    fed = 0
    went = 0
    for word, number in deeds:
        if word == "feed":
            fed += 1
        elif word == "let" and places[higher(canal, number)] == END:
            came += 1
        elif word == "let" and places[lower(canal, number)] == END:
            went += 1
    return (came, fed, went)
