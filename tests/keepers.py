"""Houses kept barge by barge, and any rules for them; the program is held against what is told here."""

import random

from tests.plain import Plain, first_done, is_number, is_plain_stand
from tests.samples import CANALS, random_canal, random_stand, replaced


def is_plain_rule(canal, thing):
    """Whether a thing is a rule, told by its own words."""
    if type(thing) is not tuple or len(thing) > 12:
        return False
    for row in thing:
        if type(row) is not tuple or len(row) != 2 or type(row[0]) is not tuple or len(row[0]) > 4:
            return False
        if not all(is_plain_ask(canal, ask) for ask in row[0]) or not is_plain_deed(canal, row[1]):
            return False
    return True


def is_plain_ask(canal, thing):
    if type(thing) is not tuple or len(thing) != 3 or type(thing[0]) is not str:
        return False
    if thing[0] not in ("least", "most", "right", "left") or not is_number(thing[1]) or not is_number(thing[2]):
        return False
    return thing[1] in range(len(canal[0])) and thing[2] in range(10)


def is_plain_deed(canal, thing):
    if type(thing) is not tuple or len(thing) != 2 or type(thing[0]) is not str or not is_number(thing[1]):
        return False
    if thing[0] == "feed":
        return thing[1] in range(len(canal[0]))
    return thing[0] in ("let", "right", "left") and thing[1] in range(len(canal[1]))


def is_plain_house(canal, crowd, thing):
    if not is_plain_stand(canal, thing) or thing[1][-1] or thing[2][0]:
        return False
    return thing[1][0] <= crowd and thing[2][-1] <= crowd


def plain_hour(canal, rule, crowd, stand, coming):
    """What an hour tells, by plain moving."""
    return plain_keeping(canal, rule, crowd, stand, coming)[0]


def plain_keeping(canal, rule, crowd, stand, coming):
    """What an hour tells, and the lockfuls that came out of ends, were fed, and went into ends in it."""
    plain = Plain(canal, stand)
    last = len(canal[1])
    turned = 0
    for comes, barge in ((coming in (1, 3), ["right", 0]), (coming in (2, 3), ["left", last])):
        if comes and plain.barges.count(barge) >= crowd:
            turned += 1
        elif comes:
            plain.barges.append(barge)
    # What is refused changes nothing, so all asks are held against the stand as it is now.
    done = first_done(plain, [deed for asks, deed in rule if all(plain_holds(plain, *ask) for ask in asks)])
    plain.barges = [barge for barge in plain.barges if barge not in (["right", last], ["left", 0])]
    return ((plain.stand(), done, plain.price, plain.gain, turned), (plain.came, plain.fed, plain.went))


def plain_holds(plain, word, place, number):
    if word == "least":
        return not plain.levels[place] < number
    if word == "most":
        return not plain.levels[place] > number
    return not plain.barges.count([word, place]) < number


def plain_ever(canal, rule, crowd, stand, comings, most):
    """What is told of a house kept for ever, by walking on; None where lead and ring are more than so many."""
    states = [(stand, 0)]
    hours = []
    while len(hours) < most:
        one, place = states[-1]
        told = plain_hour(canal, rule, crowd, one, comings[place])
        hours.append(told[2:])
        state = (told[0], (place + 1) % len(comings))
        if state in states:
            lead = states.index(state)
            return (lead, len(states) - lead) + tuple(sum(part) for part in zip(*hours[lead:]))
        states.append(state)
    return None


def canal_deeds(canal):
    gates = range(len(canal[1]))
    deeds = [(word, gate) for word in ("let", "right", "left") for gate in gates]
    return deeds + [("feed", place) for place in range(len(canal[0]))]


def springs(canal):
    return [("feed", at) for at, place in enumerate(canal[0]) if len(place) == 5 and place[4] is not None]


def random_ask(source, canal):
    word = source.choice(["least", "most", "right", "left"])
    number = source.choice([0, 1, 1, 1, 2, 3, source.randint(0, 9)])
    return (word, source.randrange(len(canal[0])), number)


def random_rule(source, canal):
    """Any rule; by three in four one whose deeds are likely to bring barges on."""
    deeds = canal_deeds(canal)
    if source.random() < 0.75:
        # Water that runs first, or that is fed ahead of all, keeps the others from ever being done.
        moves = [deed for deed in deeds if deed[0] in ("right", "left")]
        waters = [deed for deed in deeds if deed[0] == "let"] + springs(canal) * 2
        deeds = source.sample(moves, min(len(moves), 6)) + source.sample(waters, min(len(waters), 6))
    else:
        deeds = [source.choice(deeds) for number in range(source.randint(0, 12))]
    rows = []
    for deed in deeds:
        many = source.choice([0, 0, 1, 1, 2, 4]) if deed[0] in ("let", "feed") else source.choice([0, 0, 0, 0, 1])
        rows.append((tuple(random_ask(source, canal) for number in range(many)), deed))
    return tuple(rows)


def random_house(source, canal, crowd):
    """A house's stand."""
    levels, rights, lefts = random_stand(source, canal, 0)
    rights = replaced(replaced(rights, 0, source.randint(0, crowd)), len(rights) - 1, 0)
    lefts = replaced(replaced(lefts, 0, 0), len(lefts) - 1, source.randint(0, crowd))
    return (levels, rights, lefts)


def random_houses(seed, many, places=13):
    """Tuples of a canal of at most so many places, a rule, a crowd and a house's stand."""
    source = random.Random(seed)
    told = []
    while len(told) < many:
        canal = CANALS[len(told)] if len(told) < len(CANALS) else random_canal(source)
        if len(told) < len(CANALS) or len(canal[0]) <= places:
            crowd = source.randint(0, 4)
            told.append((canal, random_rule(source, canal), crowd, random_house(source, canal, crowd)))
    return told


def turned_rule(canal, rule):
    """The rule that does the like on the turned canal."""
    last = len(canal[0]) - 1
    words = {"right": "left", "left": "right"}
    return tuple(
        (
            tuple((words.get(word, word), last - place, number) for word, place, number in asks),
            (words.get(deed[0], deed[0]), (last if deed[0] == "feed" else last - 1) - deed[1]),
        )
        for asks, deed in rule
    )


def turned_comings(comings):
    return type(comings)((0, 2, 1, 3)[coming] for coming in comings)


def plain_pairs(canal, one, other, crowd, stand, most):
    """Each pair met, by comings with the pair behind and what the one pays more; None beyond so many."""
    found = {}
    waiting = [(stand, stand)]
    while waiting:
        pair = waiting.pop()
        if pair not in found:
            found[pair] = plain_behind(canal, one, other, crowd, pair)
            waiting.extend(behind for behind, dearer in found[pair])
        if len(found) > most:
            return None
    return found


def plain_behind(canal, one, other, crowd, pair):
    told = []
    for coming in range(4):
        first = plain_hour(canal, one, crowd, pair[0], coming)
        second = plain_hour(canal, other, crowd, pair[1], coming)
        told.append(((first[0], second[0]), first[2] - second[2]))
    return told


def plain_shortest(found, first, most):
    """How many hours the shortest list of comings has behind which the one has paid more; None beyond so many."""
    dearest = {first: 0}
    for hours in range(1, most + 1):
        behind = {}
        for pair, paid in dearest.items():
            for other, dearer in found[pair]:
                behind[other] = max(behind.get(other, paid + dearer), paid + dearer)
        if max(behind.values()) > 0:
            return hours
        dearest = behind
    return None


def is_plain_no_more(canal, one, other, crowd, stand, thing):
    """Whether a thing shows that the one never pays more, told by its own words."""
    if type(thing) is not list:
        return False
    for part in thing:
        if type(part) is not tuple or len(part) != 3 or not is_number(part[2]) or part[2] > 0:
            return False
        if not is_plain_house(canal, crowd, part[0]) or not is_plain_house(canal, crowd, part[1]):
            return False
    numbers = {part[:2]: part[2] for part in thing}
    if len(numbers) != len(thing) or numbers.get((stand, stand), -1) < 0:
        return False
    return all(
        behind in numbers and numbers[behind] >= number + dearer
        for pair, number in numbers.items()
        for behind, dearer in plain_behind(canal, one, other, crowd, pair)
    )


def paying_rule(source, canal):
    """A rule that feeds, lets down and moves in any order."""
    deeds = springs(canal) * 5 + canal_deeds(canal)
    rows = []
    for deed in source.sample(deeds, min(len(deeds), source.randint(5, 12))):
        many = source.choice([0, 0, 1, 1, 2])
        rows.append((tuple(random_ask(source, canal) for number in range(many)), deed))
    return tuple(rows)


def another_rule(source, canal, rule):
    """A rule that is much like another one, or any other one."""
    rows = list(rule)
    at = source.randrange(len(rows) + 1)
    change = source.randrange(9)
    if change > 4:
        return paying_rule(source, canal)
    if change == 0:
        return random_rule(source, canal)
    if change == 1:
        del rows[at:at + 1]
    elif change == 2 and len(rows) < 12:
        rows.insert(at, ((random_ask(source, canal),), source.choice(canal_deeds(canal))))
    elif change == 3:
        rows.append(rows.pop(source.randrange(len(rows))))
    elif at < len(rows):
        rows[at] = ((random_ask(source, canal),), rows[at][1])
    return tuple(rows)


def random_matches(seed, many, places=6):
    """Tuples of a canal with a spring that costs, two rules, a crowd and a house's stand."""
    source = random.Random(seed)
    told = []
    while len(told) < many:
        canal = random_canal(source)
        if len(canal[0]) <= places and any(canal[0][place][4] for word, place in springs(canal)):
            crowd = source.randint(0, 4)
            rules = [paying_rule(source, canal)]
            rules.append(another_rule(source, canal, rules[0]))
            source.shuffle(rules)
            told.append((canal, rules[0], rules[1], crowd, random_house(source, canal, crowd)))
    return told
