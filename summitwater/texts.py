"""Stands and deeds written by words, and stands read."""

from summitwater.errors import NoText
from summitwater.places import holds, most_water
from summitwater.stands import MOST_BARGES
from summitwater.words import number_of


def stand_text(stand):
    """Write a stand."""
    levels, rights, lefts = stand
    return " ".join([f"{level}:{right}:{left}" for level, right, left in zip(levels, rights, lefts)])


def deed_text(deed):
    """Write a deed."""
    word, number = deed
    return f"{word} {number}"


def read_stand(canal, text):
    """Read a stand of a canal, refused with NoText."""
    places = canal[0]
    parts = []
    space = MOST_BARGES
    for at, word in enumerate(text.split(" ")):
        part = place_part(places[at], word, space) if at < len(places) else None
        if part is None:
            raise NoText(at)
        parts.append(part)
        space -= part[1] + part[2]
    if len(parts) < len(places):
        raise NoText(len(parts))
    return tuple([tuple([part[row] for part in parts]) for row in range(3)])


def place_part(place, word, space):
    """Tell the level, rights and lefts of a place that a word writes, at most so many barges in all, or None."""
    words = word.split(":")
    if len(words) != 3:
        return None
    level = number_of(words[0], 0, most_water(place))
    right = number_of(words[1], 0, space)
    left = number_of(words[2], 0, space)
    if level is None or right is None or left is None:
        return None
    if right + left > space or not holds(place, right + left):
        return None
    return (level, right, left)
