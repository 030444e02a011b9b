"""Rows of deeds, done one by one, and their water."""

from summitwater.canals import higher, lower
from summitwater.deeds import deed_done
from summitwater.errors import Falls, SummitError
from summitwater.places import END


def row_done(canal, stand, deeds):
    """Do a row of deeds: tell the stand behind it, its price and its gain; refused with Falls."""
    behind = stand
    price = 0
    gain = 0
    for at, deed in enumerate(deeds):
        behind, paid, gained = step_done(canal, behind, deed, at)
        price += paid
        gain += gained
    return (behind, price, gain)


def step_done(canal, stand, deed, at):
    """Do the deed of a row that has this number."""
    try:
        return deed_done(canal, stand, deed)
    except SummitError:
        raise Falls(at) from None


def water(canal, stand, deeds):
    """Tell the lockfuls that a row lets out of ends, feeds, and lets into ends; refused with Falls."""
    # What can be done moves one lockful for each let and feed, so its deeds alone tell the water.
    row_done(canal, stand, deeds)
    places = canal[0]
    came = 0
    fed = 0
    went = 0
    for word, number in deeds:
        if word == "feed":
            fed += 1
        elif word == "let" and places[higher(canal, number)] == END:
            came += 1
        elif word == "let" and places[lower(canal, number)] == END:
            went += 1
    return (came, fed, went)
