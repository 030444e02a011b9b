"""Rules: rows of asks and a deed, by which keepers work."""

from summitwater.deeds import deeds_of, is_deed
from summitwater.kinds import is_between, is_tuple
from summitwater.stands import barges_of

MOST_ROWS = 12
MOST_ASKS = 4
MOST_ASKED = 9
ASK_WORDS = ("least", "most", "right", "left")


def is_rule(canal, thing):
    """Tell whether a thing is a rule for a canal."""
    return isinstance(thing, tuple) and len(thing) <= MOST_ROWS and all([is_rule_row(canal, row) for row in thing])


def is_rule_row(canal, thing):
    """Tell whether a thing is a row of a rule: a tuple of asks and a deed."""
    if not is_tuple(thing, 2):
        return False
    asks, deed = thing
    return are_asks(canal, asks) and is_deed(deed) and deed in deeds_of(canal)


def are_asks(canal, thing):
    """Tell whether a thing is the asks of a row."""
    return isinstance(thing, tuple) and len(thing) <= MOST_ASKS and all([is_ask(canal, ask) for ask in thing])


def is_ask(canal, thing):
    """Tell whether a thing is a tuple of an ask's word, a place and a number."""
    if not is_tuple(thing, 3):
        return False
    word, place, number = thing
    return word in ASK_WORDS and is_between(place, 0, len(canal[0]) - 1) and is_between(number, 0, MOST_ASKED)


def ask_holds(stand, ask):
    """Tell whether an ask holds at a stand."""
    word, place, number = ask
    if word == "least":
        return stand[0][place] >= number
    if word == "most":
        return stand[0][place] <= number
    return barges_of(stand, word)[place] >= number
