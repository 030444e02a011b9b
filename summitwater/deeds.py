"""Deeds: what is done at a stand, and what is refused there."""

from summitwater.canals import higher, lower
from summitwater.errors import Dry, Full, NoBarge, NoGate, NoRoom, NoSpring, Shallow, SummitError, Uneven
from summitwater.kinds import is_tuple, is_whole
from summitwater.places import CHAMBER, END, has_spring, holds, is_dry, is_full, is_shallow
from summitwater.stands import barges_of, with_barges, with_more

WORDS = ("let", "feed", "right", "left")


def deed_done(canal, stand, deed):
    """Do a deed: tell the stand behind it, its price and its gain."""
    word, number = deed
    if word == "let":
        check_let(canal, stand, number)
        return (let_down(canal, stand, number), 0, 0)
    if word == "feed":
        check_feed(canal, stand, number)
        levels, rights, lefts = stand
        return ((with_more(levels, number, 1), rights, lefts), canal[0][number][4], 0)
    check_move(canal, stand, deed)
    return (moved(stand, deed), 0, 1 if is_last_move(canal, deed) else 0)


def deeds_at(canal, stand):
    """List the deeds that can be done at a stand."""
    return [deed for deed, behind, price, gain in steps_by(canal, stand, deed_done)]


def steps_by(canal, stand, done):
    """List the deeds that can be done at a stand, each with the stand behind it, its price and its gain.

    Done does a deed: deed_done, or one like it.
    """
    steps = []
    for deed in deeds_of(canal):
        try:
            behind, price, gain = done(canal, stand, deed)
        except SummitError:
            continue
        steps.append((deed, behind, price, gain))
    return steps


def deeds_of(canal):
    """List each deed with a gate of the canal, or for feed with a place."""
    places, gates = canal
    lets = [("let", gate) for gate in range(len(gates))]
    feeds = [("feed", place) for place in range(len(places))]
    rights = [("right", gate) for gate in range(len(gates))]
    lefts = [("left", gate) for gate in range(len(gates))]
    return lets + feeds + rights + lefts


def is_deed(thing):
    """Tell whether a thing is a deed, of whatever number."""
    return is_tuple(thing, 2) and thing[0] in WORDS and is_whole(thing[1])


def turned_deed(canal, deed):
    """Tell the deed that does the like on the turned canal."""
    word, number = deed
    last_place = len(canal[0]) - 1
    last_gate = len(canal[1]) - 1
    if word == "feed":
        return ("feed", last_place - number)
    if word == "let":
        return ("let", last_gate - number)
    return ("left" if word == "right" else "right", last_gate - number)


def place_ahead(deed):
    """Tell the place that the barge of a right or left leaves."""
    word, gate = deed
    return gate if word == "right" else gate + 1


def place_behind(deed):
    """Tell the place that the barge of a right or left comes to."""
    word, gate = deed
    return gate + 1 if word == "right" else gate


def is_last_move(canal, deed):
    """Tell whether the barge of a right or left comes to its end."""
    return place_behind(deed) == (len(canal[0]) - 1 if deed[0] == "right" else 0)


def check_let(canal, stand, gate):
    """Refuse a let that can't be done."""
    check_gate(canal, gate)
    places, levels = canal[0], stand[0]
    high = higher(canal, gate)
    low = lower(canal, gate)
    if is_dry(places[high], levels[high]):
        raise Dry("the higher place has no lockful")
    if is_full(places[low], levels[low]):
        raise Full("the lower place takes no lockful")


def check_feed(canal, stand, number):
    """Refuse a feed that can't be done."""
    places, levels = canal[0], stand[0]
    if not 0 <= number < len(places) or not has_spring(places[number]):
        raise NoSpring("there is no spring at this place")
    if is_full(places[number], levels[number]):
        raise Full("the pound is at its brim")


def check_move(canal, stand, deed):
    """Refuse a right or left that can't be done."""
    word, gate = deed
    check_gate(canal, gate)
    if barges_of(stand, word)[place_ahead(deed)] == 0:
        raise NoBarge("there is no barge that goes this way")
    target = place_behind(deed)
    if not holds(canal[0][target], stand[1][target] + stand[2][target] + 1):
        raise NoRoom("the place that the barge comes to has no room")
    check_water(canal, stand[0], gate)


def check_gate(canal, gate):
    """Refuse a gate that is not there; numbers below 0 are none."""
    if not 0 <= gate < len(canal[1]):
        raise NoGate("there is no such gate")


def check_water(canal, levels, gate):
    """Refuse a gate that the water lets no barge through."""
    places = canal[0]
    high = higher(canal, gate)
    low = lower(canal, gate)
    if places[high] == CHAMBER and levels[high] == 1:
        raise Uneven("the higher chamber is full")
    if places[low] == CHAMBER and levels[low] == 0:
        raise Uneven("the lower chamber is empty")
    if is_shallow(places[high], levels[high]) or is_shallow(places[low], levels[low]):
        raise Shallow("the pound's level is below its deep")


def let_down(canal, stand, gate):
    """Tell the stand behind a let that can be done."""
    levels, rights, lefts = stand
    levels = with_water(canal, levels, higher(canal, gate), -1)
    levels = with_water(canal, levels, lower(canal, gate), 1)
    return (levels, rights, lefts)


def with_water(canal, levels, place, many):
    """Tell the levels with so many lockfuls more at a place; an end's level stays."""
    if canal[0][place] == END:
        return levels
    return with_more(levels, place, many)


def moved(stand, deed):
    """Tell the stand behind a right or left that can be done."""
    word = deed[0]
    row = with_more(barges_of(stand, word), place_ahead(deed), -1)
    return with_barges(stand, word, with_more(row, place_behind(deed), 1))
