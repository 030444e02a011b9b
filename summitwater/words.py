"""Canals written by words, and read."""

from summitwater.canals import DOWN, MOST_PLACES, UP
from summitwater.errors import NoText
from summitwater.places import CHAMBER, END, MOST_BRIM, MOST_PRICE, MOST_ROOM

FIGURES = "0123456789"
# No text that is read writes a number of more figures.
MOST_FIGURES = 16


def canal_text(canal):
    """Write a canal."""
    places, gates = canal
    words = place_words(places[0])
    for gate, place in zip(gates, places[1:]):
        words.append(gate)
        words.extend(place_words(place))
    return " ".join(words)


def place_words(place):
    """List the words of a place; a price that is None has none."""
    return [str(part) for part in place if part is not None]


def read_canal(text):
    """Read a canal, refused with NoText."""
    words = text.split(" ")
    place, at = read_place(words, 0, [])
    places = [place]
    gates = []
    while len(places) == 1 or places[-1] != END:
        gates.append(read_gate(words, at))
        place, at = read_place(words, at + 1, places)
        places.append(place)
    if at < len(words):
        raise NoText(at)
    return (tuple(places), tuple(gates))


def read_place(words, at, ahead):
    """Read the place whose words begin at a number, and tell the number behind them too."""
    word = word_at(words, at)
    if not may_follow(word, ahead):
        raise NoText(at)
    if word == "pound":
        return read_pound(words, at + 1)
    return ((word,), at + 1)


def may_follow(word, ahead):
    """Tell whether a place of this word may follow the places ahead, so that a canal can still come of them."""
    number = len(ahead)
    if number == 0:
        return word == "end"
    if word == "chamber":
        # An end must still follow.
        return number + 1 < MOST_PLACES
    if ahead[-1] != CHAMBER:
        return False
    if word == "pound":
        # A chamber and an end must still follow.
        return number + 2 < MOST_PLACES
    return word == "end"


def read_pound(words, at):
    """Read a pound whose numbers begin at a number, and tell the number behind them too."""
    brim = read_number(words, at, 1, MOST_BRIM)
    deep = read_number(words, at + 1, 0, brim)
    room = read_number(words, at + 2, 1, MOST_ROOM)
    behind = at + 3
    price = None
    if behind < len(words):
        price = number_of(words[behind], 0, MOST_PRICE)
    if price is not None:
        behind += 1
    return (("pound", brim, deep, room, price), behind)


def read_gate(words, at):
    """Read a gate."""
    word = word_at(words, at)
    if word != UP and word != DOWN:
        raise NoText(at)
    return word


def read_number(words, at, least, most):
    """Read a whole number from least to most."""
    number = number_of(word_at(words, at), least, most)
    if number is None:
        raise NoText(at)
    return number


def word_at(words, at):
    """Tell the word of a number, at most the number behind the last one."""
    if at == len(words):
        # Here at is how many words there are: none of them was wrong.
        raise NoText(at)
    return words[at]


def number_of(word, least, most):
    """Tell the whole number from least to most that a word writes, or None."""
    if not is_written(word) or not least <= int(word) <= most:
        return None
    return int(word)


def is_written(word):
    """Tell whether a word writes a whole number from 0 on, with no 0 ahead but in 0 itself."""
    if not 1 <= len(word) <= MOST_FIGURES or not all([sign in FIGURES for sign in word]):
        return False
    return word == "0" or word[0] != "0"
