"""Houses: kept by a rule, hour by hour, whoever comes."""

from summitwater.deeds import deed_done
from summitwater.errors import SummitError
from summitwater.rules import ask_holds
from summitwater.stands import is_stand, with_more

COMINGS = (0, 1, 2, 3)
# Those with which a right barge comes to the first place, and those with which a left one comes to the last.
RIGHT_COMES = (1, 3)
LEFT_COMES = (2, 3)


def is_house(canal, crowd, thing):
    """Tell whether a thing is a house's stand: at its ends are those who wait alone, none to the crowd."""
    if not is_stand(canal, thing) or without_gone(thing) != thing:
        return False
    levels, rights, lefts = thing
    return rights[0] <= crowd and lefts[-1] <= crowd


def without_gone(stand):
    """Tell the stand without the barges that have come to their ends."""
    levels, rights, lefts = stand
    return (levels, rights[:-1] + (0,), (0,) + lefts[1:])


def hour(canal, rule, crowd, stand, coming):
    """Keep a house for an hour: tell the stand behind it, the deed or None, its price, its gain, those turned away."""
    ahead, turned = with_comers(stand, crowd, coming)
    for asks, deed in rule:
        if not all([ask_holds(ahead, ask) for ask in asks]):
            continue
        try:
            behind, price, gain = deed_done(canal, ahead, deed)
        except SummitError:
            continue
        return (without_gone(behind), deed, price, gain, turned)
    return (ahead, None, 0, 0, turned)


def with_comers(stand, crowd, coming):
    """Tell the stand with those who come, and how many are turned away."""
    levels, rights, lefts = stand
    last = len(lefts) - 1
    turned = 0
    if coming in RIGHT_COMES and rights[0] < crowd:
        rights = with_more(rights, 0, 1)
    elif coming in RIGHT_COMES:
        turned += 1
    if coming in LEFT_COMES and lefts[last] < crowd:
        lefts = with_more(lefts, last, 1)
    elif coming in LEFT_COMES:
        turned += 1
    return ((levels, rights, lefts), turned)


def kept(canal, rule, crowd, stand, comings):
    """Keep a house for as many hours as there are comings: list what each one tells, and tell the last stand."""
    hours = []
    behind = stand
    for coming in comings:
        behind, deed, price, gain, turned = hour(canal, rule, crowd, behind, coming)
        hours.append((deed, price, gain, turned))
    return (hours, behind)
