"""The stands met from a stand."""

from summitwater.deeds import deed_done, steps_by
from summitwater.errors import TooMany

LIMIT = 600


def met(canal, stand, limit=LIMIT):
    """List the stands met as tuples (stand, ahead, deed); refused with TooMany, where they are more than the limit."""
    return met_by(canal, stand, limit, deed_done)


def met_by(canal, stand, limit, done):
    """List the stands met as met does, each deed done by done: deed_done, or one like it."""
    told = [(stand, None, None)]
    seen = {stand: True}
    at = 0
    while at < len(told):
        if len(told) > limit:
            raise TooMany("more stands are met than the limit")
        for deed, behind, price, gain in steps_by(canal, told[at][0], done):
            if behind not in seen:
                seen[behind] = True
                told.append((behind, at, deed))
        at += 1
    return told


def row_to(told, number):
    """List the deeds that lead from the first of the stands met to the one of a number."""
    deeds = []
    stand, ahead, deed = told[number]
    while ahead is not None:
        deeds.append(deed)
        stand, ahead, deed = told[ahead]
    return deeds[::-1]
