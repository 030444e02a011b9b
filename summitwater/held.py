"""Two rules held against one another: whether the one ever pays more."""

from summitwater.errors import TooMany
from summitwater.met import LIMIT
from summitwater.pairs import pairs_behind

MOST_HOURS = 300


def held(canal, one, other, crowd, stand, limit=LIMIT):
    """Tell pairs that show that the one never pays more, or a shortest list of comings; refused with TooMany."""
    pairs, steps = pairs_met(canal, one, other, crowd, (stand, stand), limit)
    numbers = {0: 0}
    raised = {0: None}
    hours = 0
    while raised:
        # Where a number still rises behind as many hours as there are pairs, it rises in a ring, on and on.
        if hours == max(MOST_HOURS, len(pairs)):
            raise TooMany("the shortest list of comings is too long")
        raised = raise_behind(steps, numbers, raised)
        hours += 1
        dearer = [number for number in raised if numbers[number] > 0]
        if dearer and hours > MOST_HOURS:
            raise TooMany("the shortest list of comings is too long")
        if dearer:
            return ("more", comings_of(raised[dearer[0]]))
    return ("never", [(ones, others, numbers[number]) for number, (ones, others) in enumerate(pairs)])


def pairs_met(canal, one, other, crowd, first, limit):
    """List the pairs met from a first one, and for each by comings the number of the pair behind and its cost."""
    pairs = [first]
    numbers = {first: 0}
    steps = []
    while len(steps) < len(pairs):
        if len(pairs) > limit:
            raise TooMany("more pairs of stands are met than the limit")
        row = []
        for behind, dearer in pairs_behind(canal, one, other, crowd, pairs[len(steps)]):
            if behind not in numbers:
                numbers[behind] = len(pairs)
                pairs.append(behind)
            row.append((numbers[behind], dearer))
        steps.append(row)
    return (pairs, steps)


def raise_behind(steps, numbers, raised):
    """Raise the numbers of pairs an hour behind those that were raised, and tell which, each with its comings.

    A pair's number is the most that the one has paid more when the pair was met. Comings are told from the last one
    back: None, or a tuple of a coming and those ahead of it.
    """
    most = {}
    comings = {}
    for number, ahead in raised.items():
        for coming, (behind, dearer) in enumerate(steps[number]):
            paid = numbers[number] + dearer
            known = most.get(behind, numbers.get(behind))
            if known is None or paid > known:
                most[behind] = paid
                comings[behind] = (coming, ahead)
    numbers.update(most)
    return comings


def comings_of(chain):
    """List the comings that are told from the last one back."""
    comings = []
    while chain is not None:
        coming, chain = chain
        comings.append(coming)
    return comings[::-1]
