"""Pairs of stands, of two rules at the same comings, and what shows that the one never pays more."""

from summitwater.houses import COMINGS, hour, is_house
from summitwater.kinds import is_tuple, is_whole


def shows_no_more(canal, one, other, crowd, stand, thing):
    """Tell whether a thing is a list of pairs, with a number each, that shows that the one never pays more."""
    if not isinstance(thing, list) or not all([is_pair(canal, crowd, part) for part in thing]):
        return False
    numbers = {(ones, others): number for ones, others, number in thing}
    if len(numbers) < len(thing) or (stand, stand) not in numbers or numbers[(stand, stand)] < 0:
        return False
    for pair, number in numbers.items():
        if number > 0:
            return False
        for behind, dearer in pairs_behind(canal, one, other, crowd, pair):
            if behind not in numbers or numbers[behind] < number + dearer:
                return False
    return True


def is_pair(canal, crowd, thing):
    """Tell whether a thing is a tuple of two houses' stands and a whole number."""
    if not is_tuple(thing, 3) or not is_whole(thing[2]):
        return False
    return is_house(canal, crowd, thing[0]) and is_house(canal, crowd, thing[1])


def pairs_behind(canal, one, other, crowd, pair):
    """List for each coming the pair of stands behind an hour, and by how much the one pays more in it."""
    behind = []
    for coming in COMINGS:
        ones = hour(canal, one, crowd, pair[0], coming)
        others = hour(canal, other, crowd, pair[1], coming)
        behind.append(((ones[0], others[0]), ones[2] - others[2]))
    return behind
