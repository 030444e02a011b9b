"""Deeds done by plain moving: a canal's water as a list, its barges one by one; the program is held against it."""

import functools


class Refused(Exception):
    pass


class Plain:
    def __init__(self, canal, stand, last=None):
        """Last is a word and a place: of such barges the one that goes last is marked."""
        self.places, self.gates = canal
        self.levels = list(stand[0])
        self.barges = [
            [word, place]
            for word, row in (("right", stand[1]), ("left", stand[2]))
            for place, many in enumerate(row)
            for number in range(many)
        ]
        self.marked = None
        if last is not None:
            # Who moves is the first in the list that can, so the marked one stands behind all others.
            self.barges.remove(list(last))
            self.marked = list(last)
            self.barges.append(self.marked)
        self.price = self.gain = self.came = self.fed = self.went = 0

    def stand(self, without=None):
        rows = {"right": [0] * len(self.places), "left": [0] * len(self.places)}
        for barge in self.barges:
            if barge is not without:
                rows[barge[0]][barge[1]] += 1
        return (tuple(self.levels), tuple(rows["right"]), tuple(rows["left"]))

    def sides(self, gate):
        if not gate in range(len(self.gates)):
            raise Refused("NoGate")
        pair = (gate + 1, gate)
        return pair if self.gates[gate] == "up" else pair[::-1]

    def do(self, deed):
        """Do a deed; tell who moved, if one did."""
        word, number = deed
        if word == "let":
            return self.let(number)
        if word == "feed":
            return self.feed(number)
        return self.move(word, number)

    def let(self, gate):
        high, low = self.sides(gate)
        if self.places[high][0] in ("chamber", "pound") and self.levels[high] < 1:
            raise Refused("Dry")
        if self.places[low][0] == "chamber" and self.levels[low] == 1:
            raise Refused("Full")
        if self.places[low][0] == "pound" and self.levels[low] == self.places[low][1]:
            raise Refused("Full")
        if self.places[high] == ("end",):
            self.came += 1
        else:
            self.levels[high] -= 1
        if self.places[low] == ("end",):
            self.went += 1
        else:
            self.levels[low] += 1

    def feed(self, number):
        springs = {at: place for at, place in enumerate(self.places) if len(place) == 5 and place[4] is not None}
        if number not in springs:
            raise Refused("NoSpring")
        if self.levels[number] == springs[number][1]:
            raise Refused("Full")
        self.levels[number] += 1
        self.fed += 1
        self.price += springs[number][4]

    def move(self, word, gate):
        high, low = self.sides(gate)
        start, goal = (gate, gate + 1) if word == "right" else (gate + 1, gate)
        who = [barge for barge in self.barges if barge == [word, start]]
        if not who:
            raise Refused("NoBarge")
        there = [barge for barge in self.barges if barge[1] == goal]
        room = {"end": 10 ** 9, "chamber": 1}.get(self.places[goal][0])
        if len(there) >= (self.places[goal][3] if room is None else room):
            raise Refused("NoRoom")
        if (self.places[high][0], self.levels[high]) == ("chamber", 1):
            raise Refused("Uneven")
        if (self.places[low][0], self.levels[low]) == ("chamber", 0):
            raise Refused("Uneven")
        for place in (high, low):
            if self.places[place][0] == "pound" and self.levels[place] < self.places[place][2]:
                raise Refused("Shallow")
        who[0][1] = goal
        if self.places[goal] == ("end",) and goal == (len(self.gates) if word == "right" else 0):
            self.gain += 1
        return who[0]


def every_deed(canal):
    """Each deed with a number from some below 0 to some beyond, in the order in which deeds are told."""
    many = len(canal[0])
    numbers = list(range(-3, many + 3))
    return [(word, number) for word in ("let", "feed", "right", "left") for number in numbers]


def answer(canal, stand, deed, kind=Plain):
    """The tuple to which a deed leads, or the name of the class that refuses it."""
    plain = kind(canal, stand)
    try:
        plain.do(deed)
    except Refused as refused:
        return str(refused)
    return (plain.stand(), plain.price, plain.gain)


def possible(canal, stand):
    return [deed for deed in every_deed(canal) if isinstance(answer(canal, stand, deed), tuple)]


def random_row(source, canal, stand, many):
    """A row of so many deeds that is done from a stand, fewer where no deed can be done any more."""
    plain = Plain(canal, stand)
    row = []
    while len(row) < many:
        deed = any_done(source, plain, every_deed(canal))
        if deed is None:
            break
        row.append(deed)
    return row


def any_done(source, plain, deeds):
    """Do any one of some deeds, by two in three a barge's move where one can be done."""
    source.shuffle(deeds)
    if source.random() < 0.66:
        deeds.sort(key=lambda deed: deed[0] in ("let", "feed"))
    return first_done(plain, deeds)


def first_done(plain, deeds):
    """Do the first of some deeds that can be done, and tell it."""
    for deed in deeds:
        try:
            plain.do(deed)
        except Refused:
            continue
        return deed
    return None


class OpenPlain(Plain):
    """An open stand: as many barges as one likes wait at their ends, and who comes to an end is taken off."""

    def move(self, word, gate):
        last = len(self.gates)
        self.barges += [["right", 0], ["right", 0], ["left", last], ["left", last]]
        try:
            return Plain.move(self, word, gate)
        finally:
            self.barges = [barge for barge in self.barges if barge[1] not in (0, last)]


def open_answer(canal, stand, deed):
    """As answer, of an open stand."""
    return answer(canal, stand, deed, OpenPlain)


@functools.lru_cache(maxsize=30000)
def steps(canal, stand, ask=answer):
    """Each deed that can be done at a stand, with the tuple to which it leads; nobody changes what is told."""
    numbers = range(len(canal[0]))
    deeds = [(word, number) for word in ("let", "feed", "right", "left") for number in numbers]
    told = [(deed, ask(canal, stand, deed)) for deed in deeds]
    return [(deed, led) for deed, led in told if isinstance(led, tuple)]


def search(canal, stand, most, ask=answer):
    """Each stand met with its steps, by a plain search; None where there are more than so many."""
    found = {}
    waiting = [stand]
    while waiting:
        one = waiting.pop()
        if one not in found:
            found[one] = steps(canal, one, ask)
            waiting.extend(led[0] for deed, led in found[one])
        if len(found) > most:
            return None
    return found


def is_number(thing):
    return type(thing) is int


def is_plain_stand(canal, thing):
    """Whether a thing is a stand, told by its own words."""
    places = canal[0]
    if type(thing) is not tuple or len(thing) != 3:
        return False
    for row in thing:
        if type(row) is not tuple or len(row) != len(places):
            return False
        if not all(is_number(part) and part >= 0 for part in row):
            return False
    levels, rights, lefts = thing
    for at, place in enumerate(places):
        if place == ("end",) and levels[at] != 0:
            return False
        if place == ("chamber",) and (levels[at] > 1 or rights[at] + lefts[at] > 1):
            return False
        if place[0] == "pound" and (levels[at] > place[1] or rights[at] + lefts[at] > place[3]):
            return False
    return sum(rights + lefts) <= 60


def all_through(stand):
    return not any(stand[1][:-1]) and not any(stand[2][1:])


def is_plain_never(canal, stand, thing):
    """Whether a thing shows that a stand never comes through."""
    if type(thing) is not list or not all(is_plain_stand(canal, one) for one in thing):
        return False
    if len(set(thing)) != len(thing) or stand not in thing:
        return False
    if any(all_through(one) for one in thing):
        return False
    there = set(thing)
    return all(led[0] in there for one in thing for deed, led in steps(canal, one))


def barges(stand):
    """Each word and place with such barges."""
    return [
        (word, place)
        for word, row in (("right", stand[1]), ("left", stand[2]))
        for place, many in enumerate(row)
        if many
    ]


def less(stand, word, place):
    rows = [list(row) for row in stand]
    rows[1 if word == "right" else 2][place] -= 1
    return tuple(tuple(row) for row in rows)


def is_plain_row(thing):
    if type(thing) is not list or len(thing) > 6000:
        return False
    for deed in thing:
        if type(deed) is not tuple or len(deed) != 2 or not is_number(deed[1]):
            return False
        if type(deed[0]) is not str or deed[0] not in ("let", "feed", "right", "left"):
            return False
    return True


def brings_through(canal, stand, row):
    plain = Plain(canal, stand)
    try:
        for deed in row:
            plain.do(deed)
    except Refused:
        return False
    return all_through(plain.stand())


def is_plain_jam(canal, stand, thing):
    """Whether a thing is a tuple that shows a least jam of a stand."""
    if type(thing) is not tuple or len(thing) != 4 or thing[0] != "jam":
        return False
    kept, stands, rows = thing[1:]
    if not is_plain_stand(canal, kept) or kept[0] != stand[0]:
        return False
    if any(few > many for few, many in zip(kept[1] + kept[2], stand[1] + stand[2])):
        return False
    if type(rows) is not list or len(rows) != len(barges(kept)):
        return False
    for pair, row in zip(barges(kept), rows):
        if type(row) is not tuple or len(row) != 3 or not is_number(row[1]) or row[:2] != pair:
            return False
        if not is_plain_row(row[2]) or not brings_through(canal, less(kept, *pair), row[2]):
            return False
    return is_plain_never(canal, kept, stands)


def is_plain_open(canal, thing):
    return is_plain_stand(canal, thing) and not any([thing[1][0], thing[1][-1], thing[2][0], thing[2][-1]])


def plain_worths(canal, stand, thing):
    """The number of each stand, where a thing is worths that the stand is one of, and stays among them; or None."""
    if type(thing) is not list:
        return None
    for part in thing:
        if type(part) is not tuple or len(part) != 2 or not is_plain_open(canal, part[0]) or not is_number(part[1]):
            return None
    numbers = dict(thing)
    if len(numbers) != len(thing) or stand not in numbers:
        return None
    for one in numbers:
        if any(led[0] not in numbers for deed, led in steps(canal, one, open_answer)):
            return None
    return numbers


def is_plain_ring(canal, stand, price, gain, thing):
    """Whether a thing is worths that bear out a price and a gain."""
    numbers = plain_worths(canal, stand, thing)
    return numbers is not None and all(
        gain * paid + numbers[behind] >= price * gained + numbers[one]
        for one in numbers
        for deed, (behind, paid, gained) in steps(canal, one, open_answer)
    )


def is_plain_most(canal, stand, most, thing):
    """Whether a thing is worths that bear out a most gain."""
    numbers = plain_worths(canal, stand, thing)
    return numbers is not None and numbers[stand] == most and min(numbers.values()) >= 0 and all(
        numbers[behind] + gained <= numbers[one]
        for one in numbers
        for deed, (behind, paid, gained) in steps(canal, one, open_answer)
    )


def settled(found, weigh):
    """The lowest sum of weights of rows from each stand, round by round; None where a ring has a sum below 0."""
    numbers = {one: 0 for one in found}
    for number in range(len(found) + 1):
        before = dict(numbers)
        for one in found:
            for deed, (behind, paid, gained) in found[one]:
                numbers[one] = min(numbers[one], numbers[behind] + weigh(paid, gained))
        if numbers == before:
            return numbers
    return None
