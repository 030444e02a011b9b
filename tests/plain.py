"""Deeds done by plain moving: a canal's water as a list, its barges one by one. It is what the program is held against."""


class Refused(Exception):
    pass


class Plain:
    def __init__(self, canal, stand, last=None):
        """Last is a word and a place: of such barges the one that goes last is marked."""
        self.places, self.gates = canal
        self.levels = list(stand[0])
        self.barges = [
            [word, place]
            for word, row in (("right", stand[1]), ("left", stand[2]))
            for place, many in enumerate(row)
            for number in range(many)
        ]
        self.marked = None
        if last is not None:
            # Who moves is the first in the list that can, so the marked one stands behind all others.
            self.barges.remove(list(last))
            self.marked = list(last)
            self.barges.append(self.marked)
        self.price = self.gain = self.came = self.fed = self.went = 0

    def stand(self, without=None):
        rows = {"right": [0] * len(self.places), "left": [0] * len(self.places)}
        for barge in self.barges:
            if barge is not without:
                rows[barge[0]][barge[1]] += 1
        return (tuple(self.levels), tuple(rows["right"]), tuple(rows["left"]))

    def sides(self, gate):
        if not gate in range(len(self.gates)):
            raise Refused("NoGate")
        pair = (gate + 1, gate)
        return pair if self.gates[gate] == "up" else pair[::-1]

    def do(self, deed):
        """Do a deed; tell who moved, if one did."""
        word, number = deed
        if word == "let":
            return self.let(number)
        if word == "feed":
            return self.feed(number)
        return self.move(word, number)

    def let(self, gate):
        high, low = self.sides(gate)
        if self.places[high][0] in ("chamber", "pound") and self.levels[high] < 1:
            raise Refused("Dry")
        if self.places[low][0] == "chamber" and self.levels[low] == 1:
            raise Refused("Full")
        if self.places[low][0] == "pound" and self.levels[low] == self.places[low][1]:
            raise Refused("Full")
        if self.places[high] == ("end",):
            self.came += 1
        else:
            self.levels[high] -= 1
        if self.places[low] == ("end",):
            self.went += 1
        else:
            self.levels[low] += 1

    def feed(self, number):
        springs = {at: place for at, place in enumerate(self.places) if len(place) == 5 and place[4] is not None}
        if number not in springs:
            raise Refused("NoSpring")
        if self.levels[number] == springs[number][1]:
            raise Refused("Full")
        self.levels[number] += 1
        self.fed += 1
        self.price += springs[number][4]

    def move(self, word, gate):
        high, low = self.sides(gate)
        start, goal = (gate, gate + 1) if word == "right" else (gate + 1, gate)
        who = [barge for barge in self.barges if barge == [word, start]]
        if not who:
            raise Refused("NoBarge")
        there = [barge for barge in self.barges if barge[1] == goal]
        room = {"end": 10 ** 9, "chamber": 1}.get(self.places[goal][0])
        if len(there) >= (self.places[goal][3] if room is None else room):
            raise Refused("NoRoom")
        if (self.places[high][0], self.levels[high]) == ("chamber", 1):
            raise Refused("Uneven")
        if (self.places[low][0], self.levels[low]) == ("chamber", 0):
            raise Refused("Uneven")
        for place in (high, low):
            if self.places[place][0] == "pound" and self.levels[place] < self.places[place][2]:
                raise Refused("Shallow")
        who[0][1] = goal
        if self.places[goal] == ("end",) and goal == (len(self.gates) if word == "right" else 0):
            self.gain += 1
        return who[0]


def every_deed(canal):
    """Each deed with a number from some below 0 to some beyond, in the order in which deeds are told."""
    many = len(canal[0])
    numbers = list(range(-3, many + 3))
    return [(word, number) for word in ("let", "feed", "right", "left") for number in numbers]


def answer(canal, stand, deed):
    """The tuple to which a deed leads, or the name of the class that refuses it."""
    plain = Plain(canal, stand)
    try:
        plain.do(deed)
    except Refused as refused:
        return str(refused)
    return (plain.stand(), plain.price, plain.gain)


def possible(canal, stand):
    return [deed for deed in every_deed(canal) if isinstance(answer(canal, stand, deed), tuple)]


def random_row(source, canal, stand, many):
    """A row of so many deeds that is done from a stand, fewer where no deed can be done any more."""
    plain = Plain(canal, stand)
    row = []
    while len(row) < many:
        deed = any_done(source, plain, every_deed(canal))
        if deed is None:
            break
        row.append(deed)
    return row


def any_done(source, plain, deeds):
    """Do any one of some deeds, by two in three a barge's move where one can be done."""
    source.shuffle(deeds)
    if source.random() < 0.66:
        deeds.sort(key=lambda deed: deed[0] in ("let", "feed"))
    for deed in deeds:
        try:
            plain.do(deed)
        except Refused:
            continue
        return deed
    return None
