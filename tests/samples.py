"""Canals and things that several tests ask about."""

import random

END = ("end",)
CHAMBER = ("chamber",)
DRY_POUND = ("pound", 1, 0, 1, None)
SPRING_POUND = ("pound", 9, 9, 4, 99)
FREE_SPRING = ("pound", 5, 2, 3, 0)

# A hill: up to a summit pound with a spring, and down again.
HILL = (
    (END, CHAMBER, ("pound", 3, 1, 2, 7), CHAMBER, END),
    ("up", "up", "down", "down"),
)
# The shortest canal.
STEP = ((END, CHAMBER, END), ("up", "up"))
# A stair of chambers.
STAIR = ((END, CHAMBER, CHAMBER, CHAMBER, END), ("up", "up", "up", "up"))
# Down into a valley and up again, with two pounds.
VALLEY = (
    (END, CHAMBER, ("pound", 2, 2, 1, None), CHAMBER, ("pound", 9, 0, 4, 0), CHAMBER, END),
    ("down", "down", "up", "up", "up", "down"),
)
# As many places as there can be, by turns chambers and pounds.
LONG = (
    (END,) + (CHAMBER, SPRING_POUND, CHAMBER, DRY_POUND) * 2 + (CHAMBER, FREE_SPRING, CHAMBER, END),
    ("up", "down") * 6,
)
# As many places as there can be, up to a spring amid and down again: its water never comes to a stand.
RIDGE = (
    (END, CHAMBER, ("pound", 4, 1, 3, None), CHAMBER, CHAMBER, CHAMBER, ("pound", 9, 2, 4, 12))
    + (CHAMBER, CHAMBER, CHAMBER, ("pound", 6, 0, 2, 31), CHAMBER, END),
    ("up",) * 6 + ("down",) * 6,
)
CANALS = [HILL, STEP, STAIR, VALLEY, LONG, RIDGE]

# Things of every kind that are neither a canal nor a stand of one.
THINGS = [
    None, True, False, 0, 1, -1, 3, 10 ** 59, -(10 ** 59), "", "end", "end up chamber up end", "x" * 4000,
    (), [], ((), ()), ((), (), ()), [(), ()], (None, None), (None, None, None), ("", ""), ("", "", ""),
    (1, 2), (1, 2, 3), (True, False), ((True,), (False,)), ("abc", "ab"), ((((((((((),),),),),),),),),),
    [[[[[[[[[[]]]]]]]]]], (["end"], ["up"]), [0] * 300, (0,) * 300, ("end", "chamber", "end"),
    tuple(["up"] * 1000), ("places", "gates"), ((END,) * 3, ("up",) * 2),
]


def random_pound(source):
    brim = source.randint(1, 9)
    price = source.choice([None, 0, 1, 99, source.randint(0, 99)])
    return ("pound", brim, source.randint(0, brim), source.randint(1, 4), price)


def random_canal(source):
    many = source.randint(3, 13)
    places = [END, CHAMBER]
    while len(places) < many - 1:
        # The place ahead of the last end is a chamber.
        if places[-1] == CHAMBER and len(places) < many - 2 and source.random() < 0.6:
            places.append(random_pound(source))
        else:
            places.append(CHAMBER)
    places.append(END)
    gates = tuple(source.choice(["up", "down"]) for place in places[1:])
    return (tuple(places), gates)


def random_canals(seed, many):
    source = random.Random(seed)
    return [random_canal(source) for number in range(many)]


def kinds_of(thing):
    """The thing with the class of each part of it: 1 and True differ here, and so do lists and tuples."""
    if isinstance(thing, (tuple, list)):
        return (type(thing).__name__, [kinds_of(part) for part in thing])
    return (type(thing).__name__, thing)


def replaced(row, at, part):
    return row[:at] + (part,) + row[at + 1:]


def random_stand(source, canal, crowd=8):
    """A stand of a canal; up to a crowd of barges of each word wait at each end."""
    places = canal[0]
    levels, rights, lefts = [], [], []
    for place in places:
        most = {"end": 0, "chamber": 1}.get(place[0], place[1] if len(place) == 5 else 0)
        levels.append(source.choice([0, most, source.randint(0, most)]))
        room = {"end": source.randint(0, crowd), "chamber": 1}.get(place[0], place[3] if len(place) == 5 else 0)
        barges = source.choice([0, room, source.randint(0, room)])
        rights.append(source.choice([0, barges, source.randint(0, barges)]))
        lefts.append(barges - rights[-1])
    if sum(rights) + sum(lefts) > 60:
        return random_stand(source, canal, crowd)
    return (tuple(levels), tuple(rights), tuple(lefts))


def random_stands(seed, many):
    """Pairs of a canal and a stand."""
    source = random.Random(seed)
    pairs = []
    for number in range(many):
        canal = CANALS[number] if number < len(CANALS) else random_canal(source)
        pairs.append((canal, random_stand(source, canal)))
    return pairs


def small_stands(seed, many, places=8, crowd=2):
    """Pairs of a canal of at most so many places and a stand."""
    source = random.Random(seed)
    pairs = []
    while len(pairs) < many:
        canal = random_canal(source)
        if len(canal[0]) <= places:
            pairs.append((canal, random_stand(source, canal, crowd)))
    return pairs


def altered(source, thing):
    """The thing with one change somewhere in it, perhaps of a kind only."""
    if isinstance(thing, (tuple, list)) and thing and source.random() < 0.85:
        at = source.randrange(len(thing))
        parts = list(thing)
        parts[at] = altered(source, parts[at])
        return type(thing)(parts)
    if isinstance(thing, (tuple, list)):
        return altered_row(source, thing)
    if isinstance(thing, int):
        return source.choice([thing + 1, thing - 1, -thing, bool(thing), None, str(thing), (thing,), [thing], 10 ** 59])
    return source.choice([None, True, 0, 1, "", "left", "right", "let", "feed", "jam", "free", [], (), [thing]])


def altered_row(source, thing):
    """A row of the other kind, or with a part left out, doubled, put in, exchanged."""
    parts = list(thing)
    at = source.randrange(len(parts) + 1)
    other = source.randrange(len(parts) + 1)
    change = source.randrange(6)
    if change == 0:
        return list(thing) if isinstance(thing, tuple) else tuple(thing)
    if change == 1:
        del parts[at:at + 1]
    elif change == 2:
        parts[other:other] = parts[at:at + 1]
    elif change == 3:
        parts.insert(at, source.choice(THINGS))
    elif change == 4 and at < len(parts) and other < len(parts):
        parts[at], parts[other] = parts[other], parts[at]
    else:
        return source.choice(THINGS)
    return type(thing)(parts)
