"""What rows that are told to the desk write, read from their words; refused with NoLine."""

from summitwater.deeds import WORDS
from summitwater.errors import NoLine
from summitwater.words import number_of

MOST_NUMBER = 10 ** 16 - 1
MOST_POOL = 10 ** 15
MOST_BROUGHT = 10 ** 15 - 1
MOST_DAYS = 60
MOST_COMINGS = 20
MOST_CROWD = 4


def line_none(words):
    """Read what has no words."""
    if words:
        raise NoLine("there are words too many")


def line_number(word, least, most):
    """Read a number from least to most."""
    number = number_of(word, least, most)
    if number is None:
        raise NoLine("there is no such number here")
    return number


def line_deed(words):
    """Read a deed."""
    if len(words) != 2 or words[0] not in WORDS:
        raise NoLine("there is no deed here")
    return (words[0], line_number(words[1], 0, MOST_NUMBER))


def line_row(words):
    """Read a rule's row, perhaps one that no rule has: asks, the word : and a deed."""
    if len(words) < 3 or words[-3] != ":":
        raise NoLine("there is no row of a rule here")
    asks = words[:-3]
    if len(asks) % 3 != 0:
        raise NoLine("there is an ask that lacks words")
    return (tuple([line_ask(asks[at:at + 3]) for at in range(0, len(asks), 3)]), line_deed(words[-2:]))


def line_ask(words):
    """Read an ask, perhaps one that no rule has."""
    return (words[0], line_number(words[1], 0, MOST_NUMBER), line_number(words[2], 0, MOST_NUMBER))


def line_pool(words):
    """Read a pool's brim and the days of a round."""
    if not 2 <= len(words) <= MOST_DAYS + 1:
        raise NoLine("there are no days, or too many")
    return (line_number(words[0], 0, MOST_POOL), tuple([line_day(word) for word in words[1:]]))


def line_day(word):
    """Read what a day brings, perhaps below 0."""
    if word.startswith("-"):
        return -line_number(word[1:], 1, MOST_BROUGHT)
    return line_number(word, 0, MOST_BROUGHT)


def line_rule(word):
    """Read the number of a rule."""
    return line_number(word, 1, 2)


def line_crowd(word):
    """Read a crowd."""
    return line_number(word, 0, MOST_CROWD)


def line_comings(words):
    """Read comings that go round."""
    if not 1 <= len(words) <= MOST_COMINGS:
        raise NoLine("there are no comings, or too many")
    return tuple([line_number(word, 0, 3) for word in words])
