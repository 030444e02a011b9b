"""Houses kept for ever, where comings go round."""

from summitwater.errors import TooMany
from summitwater.houses import hour
from summitwater.met import LIMIT


def for_ever(canal, rule, crowd, stand, comings, limit=LIMIT):
    """Tell lead, ring and the ring's price, gain and turned of a house kept for ever; refused with TooMany."""
    behind = stand
    place = 0
    hours = []
    firsts = {}
    while (behind, place) not in firsts:
        if len(hours) == limit:
            raise TooMany("lead and ring together are more than the limit")
        firsts[(behind, place)] = len(hours)
        behind, deed, price, gain, turned = hour(canal, rule, crowd, behind, comings[place])
        hours.append((price, gain, turned))
        place = (place + 1) % len(comings)
    lead = firsts[(behind, place)]
    ring = hours[lead:]
    price = sum([paid for paid, gained, away in ring])
    gain = sum([gained for paid, gained, away in ring])
    turned = sum([away for paid, gained, away in ring])
    return (lead, len(ring), price, gain, turned)
