"""Jams: barges that hold one another whatever is done, and what shows it."""

from summitwater.deeds import deed_done, steps_by
from summitwater.errors import Falls
from summitwater.fewer import barge_less
from summitwater.kinds import is_between, is_tuple
from summitwater.met import LIMIT, met, row_to
from summitwater.rows import is_row, row_done
from summitwater.stands import barges_of, is_stand, is_through, with_barges, with_more

# Who is set free by taking others off may meet more stands than all did together, which is no cause to refuse.
LIMIT_OF_FEWER = 20000


def shows_never(canal, stand, thing):
    """Tell whether a thing is a list of stands that shows that a stand never comes through."""
    if not isinstance(thing, list) or not all([is_stand(canal, one) for one in thing]):
        return False
    there = {one: True for one in thing}
    if len(there) < len(thing) or stand not in there:
        return False
    for one in thing:
        if is_through(canal, one) or not stays_among(canal, one, there):
            return False
    return True


def stays_among(canal, stand, there):
    """Tell whether whatever stand is behind a deed that can be done at a stand is one of those that are there."""
    return all([behind in there for deed, behind, price, gain in steps_by(canal, stand, deed_done)])


def jam(canal, stand, limit=LIMIT):
    """Tell a row by which all come through, or a least jam and what shows it; refused with TooMany."""
    deeds = row_through(canal, stand, limit)
    if deeds is not None:
        return ("free", deeds)
    further = max(limit, LIMIT_OF_FEWER)
    kept = least_jam(canal, stand, further)
    stands = [one for one, ahead, deed in met(canal, kept, further)]
    rows = [
        (word, place, row_through(canal, barge_less(kept, word, place), further)) for word, place in where_barges(kept)
    ]
    return ("jam", kept, stands, rows)


def row_through(canal, stand, limit):
    """List the deeds of a row by which all come through, or tell None, where there is none."""
    told = met(canal, stand, limit)
    for number, (one, ahead, deed) in enumerate(told):
        if is_through(canal, one):
            return row_to(told, number)
    return None


def least_jam(canal, stand, limit):
    """Tell a least jam of a jam."""
    # A row goes on for fewer barges: who is needed once is needed among fewer, too, so each is asked but once.
    kept = stand
    for word, place in ends_first(canal, where_barges(stand)):
        kept = with_fewest(canal, kept, word, place, limit)
    return kept


def where_barges(stand):
    """List each word and place with such barges: rights by rising places, then lefts."""
    rights = [("right", place) for place, many in enumerate(stand[1]) if many > 0]
    lefts = [("left", place) for place, many in enumerate(stand[2]) if many > 0]
    return rights + lefts


def ends_first(canal, pairs):
    """List words and places with those of the ends first: without them others, set free, meet far fewer stands."""
    ends = (0, len(canal[0]) - 1)
    return [pair for pair in pairs if pair[1] in ends] + [pair for pair in pairs if pair[1] not in ends]


def with_fewest(canal, stand, word, place, limit):
    """Tell the jam that comes of a jam by taking as many barges of one word and place off as can be."""
    least = 0
    most = barges_of(stand, word)[place]
    while least < most:
        middle = (least + most) // 2
        if row_through(canal, with_number(stand, word, place, middle), limit) is None:
            most = middle
        else:
            least = middle + 1
    return with_number(stand, word, place, least)


def with_number(stand, word, place, many):
    """Tell the stand with so many barges of a word at a place."""
    row = barges_of(stand, word)
    return with_barges(stand, word, with_more(row, place, many - row[place]))


def shows_jam(canal, stand, thing):
    """Tell whether a thing is a tuple that shows a least jam of a stand."""
    if not is_tuple(thing, 4) or thing[0] != "jam":
        return False
    word, kept, stands, rows = thing
    if not is_stand(canal, kept) or not comes_of(kept, stand):
        return False
    return shows_never(canal, kept, stands) and free_each(canal, kept, rows)


def comes_of(kept, stand):
    """Tell whether a stand comes of another one by taking barges off, perhaps none."""
    if kept[0] != stand[0]:
        return False
    return all([few <= many for few, many in zip(kept[1] + kept[2], stand[1] + stand[2])])


def free_each(canal, kept, thing):
    """Tell whether a thing lists a row for each word and place, by which all but one such barge come through."""
    pairs = where_barges(kept)
    if not isinstance(thing, list) or len(thing) != len(pairs):
        return False
    return all([frees(canal, kept, word, place, part) for part, (word, place) in zip(thing, pairs)])


def frees(canal, kept, word, place, thing):
    """Tell whether a thing is a tuple of a word, a place and a row by which all but one such barge come through."""
    if not is_tuple(thing, 3) or thing[0] != word or not is_between(thing[1], place, place) or not is_row(thing[2]):
        return False
    try:
        behind, price, gain = row_done(canal, barge_less(kept, word, place), thing[2])
    except Falls:
        return False
    return is_through(canal, behind)
