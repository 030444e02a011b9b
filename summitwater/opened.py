"""Open stands: barges wait at their ends without end, and who comes to an end is gone."""

from summitwater.deeds import deed_done, deeds_at
from summitwater.met import LIMIT, met_by
from summitwater.rows import row_by
from summitwater.stands import is_stand


def is_open(canal, thing):
    """Tell whether a thing is an open stand of a canal."""
    return is_stand(canal, thing) and without_ends(thing) == thing


def without_ends(stand):
    """Tell the stand without the barges at the ends."""
    levels, rights, lefts = stand
    return (levels, (0,) + rights[1:-1] + (0,), (0,) + lefts[1:-1] + (0,))


def with_waiting(stand):
    """Tell the open stand with one of those that wait at each end: a deed moves no more."""
    levels, rights, lefts = stand
    return (levels, (1,) + rights[1:], lefts[:-1] + (1,))


def open_done(canal, stand, deed):
    """Do a deed at an open stand: tell the open stand behind it, its price and its gain."""
    behind, price, gain = deed_done(canal, with_waiting(stand), deed)
    return (without_ends(behind), price, gain)


def open_deeds(canal, stand):
    """List the deeds that can be done at an open stand."""
    return deeds_at(canal, with_waiting(stand))


def open_row(canal, stand, deeds):
    """Do a row of deeds from an open stand: tell the one behind it, its price and its gain; refused with Falls."""
    return row_by(canal, stand, deeds, open_done)


def open_met(canal, stand, limit=LIMIT):
    """List the open stands met as tuples (stand, ahead, deed); refused with TooMany."""
    return met_by(canal, stand, limit, open_done)
