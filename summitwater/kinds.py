"""Of any thing: whether it is a whole number, or a tuple of a length."""


def is_whole(thing):
    """Tell whether a thing is a whole number."""
    return isinstance(thing, int) and not isinstance(thing, bool)


def is_between(thing, least, most):
    """Tell whether a thing is a whole number from least to most."""
    return is_whole(thing) and least <= thing <= most


def is_tuple(thing, many):
    """Tell whether a thing is a tuple of so many."""
    return isinstance(thing, tuple) and len(thing) == many
