"""Trade for ever: the ring that costs the least for each gain, or the most that can ever be gained."""

from summitwater.deeds import steps_by
from summitwater.met import LIMIT, row_to
from summitwater.opened import open_done, open_met


def trade(canal, stand, limit=LIMIT):
    """Tell a cheapest ring of deeds, or a row that gains most, with worths that show it; refused with TooMany."""
    told = open_met(canal, stand, limit)
    stands = [one for one, ahead, deed in told]
    into = steps_into(canal, stands)
    numbers, choices = lowest_numbers(into, 1, 0)
    steps = ring_of(choices)
    if not steps:
        row = [deed for ahead, deed, behind, paid, gained in steps_from(choices, 0)]
        return ("least", row, worths_of(stands, [-number for number in numbers]))
    # Each further ring is cheaper for each gain than the one ahead, so there is a last one.
    while steps:
        ring = steps
        numbers, choices = lowest_numbers(into, price_of(ring), gain_of(ring))
        steps = ring_of(choices)
    way = row_to(told, ring[0][0])
    return ("ring", way, [deed for ahead, deed, behind, paid, gained in ring], worths_of(stands, numbers))


def steps_into(canal, stands):
    """List for each stand the steps that lead to it, tuples (ahead, deed, behind, paid, gained), stands by numbers."""
    numbers = {stand: number for number, stand in enumerate(stands)}
    into = [[] for stand in stands]
    for ahead, stand in enumerate(stands):
        for deed, behind, paid, gained in steps_by(canal, stand, open_done):
            number = numbers[behind]
            into[number].append((ahead, deed, number, paid, gained))
    return into


def lowest_numbers(into, price, gain):
    """Tell for each stand the lowest weight of a row from it, and the first step of that row.

    A step weighs gain times what is paid, less price times what is gained. The row of none weighs 0; where it is the
    lightest, the first step is None. Where a ring weighs less than 0, no row is the lightest: then first steps are
    told that go round in such a ring.
    """
    numbers = [0 for steps in into]
    choices = [None for steps in into]
    changed = list(range(len(into)))
    while changed and not ring_of(choices):
        changed = lower_ahead(into, numbers, choices, changed, price, gain)
    return (numbers, choices)


def lower_ahead(into, numbers, choices, changed, price, gain):
    """Lower the numbers ahead of those that were changed, and list whose were."""
    lowered = {}
    for number in changed:
        for step in into[number]:
            ahead, deed, behind, paid, gained = step
            weight = numbers[behind] + gain * paid - price * gained
            if weight < numbers[ahead]:
                numbers[ahead] = weight
                choices[ahead] = step
                lowered[ahead] = True
    return list(lowered)


def ring_of(choices):
    """List the steps of a ring of chosen steps; none, where there is no ring."""
    starts = {}
    for start in range(len(choices)):
        number = start
        while number not in starts and choices[number] is not None:
            starts[number] = start
            number = choices[number][2]
        if choices[number] is not None and starts[number] == start:
            return steps_from(choices, number)
    return []


def steps_from(choices, start):
    """List the chosen steps from a stand on, until there is none or they come back to it."""
    steps = []
    number = start
    while choices[number] is not None:
        steps.append(choices[number])
        number = choices[number][2]
        if number == start:
            break
    return steps


def price_of(steps):
    """Tell what steps cost in all."""
    return sum([paid for ahead, deed, behind, paid, gained in steps])


def gain_of(steps):
    """Tell what steps gain in all."""
    return sum([gained for ahead, deed, behind, paid, gained in steps])


def worths_of(stands, numbers):
    """List each stand with its number."""
    return [(stand, number) for stand, number in zip(stands, numbers)]
