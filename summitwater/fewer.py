"""Stands with a barge less, and rows of deeds for them."""

from summitwater.deeds import deed_done, place_ahead, place_behind
from summitwater.errors import NoBarge
from summitwater.stands import barges_of, with_barges, with_more


def barge_less(stand, word, place):
    """Tell the stand with one barge less of those that go this way at a place, refused with NoBarge."""
    row = barges_of(stand, word)
    if row[place] == 0:
        raise NoBarge("there is no barge that goes this way")
    return with_barges(stand, word, with_more(row, place, -1))


def row_less(canal, stand, deeds, word, place):
    """List the deeds of a row but those of one barge, which goes last of its like; refused with NoBarge."""
    rest = barge_less(stand, word, place)
    where = place
    kept = []
    for deed in deeds:
        if deed[0] == word and place_ahead(deed) == where and barges_of(rest, word)[where] == 0:
            # None of the rest can go from here, so this is the deed of the one that is taken off.
            where = place_behind(deed)
        else:
            rest = deed_done(canal, rest, deed)[0]
            kept.append(deed)
    return kept
