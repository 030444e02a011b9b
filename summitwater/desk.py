"""The desk: it keeps a stand and two rules of a canal, is told rows of words, and answers with texts."""

from summitwater.deeds import deed_done, deeds_at
from summitwater.errors import NoLine, NoText
from summitwater.ever import for_ever
from summitwater.held import held
from summitwater.jams import row_through
from summitwater.lines import line_comings, line_crowd, line_deed, line_none, line_pool, line_row, line_rule
from summitwater.met import LIMIT
from summitwater.opened import open_row, without_ends
from summitwater.pools import lasting
from summitwater.rules import is_rule
from summitwater.texts import deed_text, read_stand, stand_text
from summitwater.trade import trade
from summitwater.words import canal_text, read_canal


def answer_canal(desk, words):
    """Answer `canal`."""
    line_none(words)
    return canal_text(desk.canal)


def answer_show(desk, words):
    """Answer `show`."""
    line_none(words)
    return stand_text(desk.stand)


def answer_stand(desk, words):
    """Answer `stand` and a stand's words."""
    try:
        desk.stand = read_stand(desk.canal, " ".join(words))
    except NoText as refusal:
        # In the row the word stand is ahead of the text.
        raise NoText(refusal.at + 1) from None
    return "ok"


def answer_do(desk, words):
    """Answer `do DEED`."""
    behind, price, gain = deed_done(desk.canal, desk.stand, line_deed(words))
    desk.stand = behind
    return f"price {price} gain {gain}"


def answer_deeds(desk, words):
    """Answer `deeds`."""
    line_none(words)
    return ", ".join([deed_text(deed) for deed in deeds_at(desk.canal, desk.stand)]) or "-"


def answer_jam(desk, words):
    """Answer `jam`."""
    line_none(words)
    # Whether all come through is asked of the stand alone, so no limit is passed by one with fewer barges.
    return "jam" if row_through(desk.canal, desk.stand, LIMIT) is None else "free"


def answer_trade(desk, words):
    """Answer `trade`."""
    line_none(words)
    stand = without_ends(desk.stand)
    told = trade(desk.canal, stand)
    behind, price, gain = open_row(desk.canal, stand, told[1])
    if told[0] == "least":
        return f"least {gain}"
    behind, price, gain = open_row(desk.canal, behind, told[2])
    divisor = common_divisor(price, gain)
    return f"ring {price // divisor} {gain // divisor}"


def common_divisor(one, other):
    """Tell the greatest common divisor of two numbers from 0 on, not both of them 0."""
    while other > 0:
        one, other = other, one % other
    return one


def answer_pool(desk, words):
    """Answer `pool BRIM N ..`."""
    brim, days = line_pool(words)
    told = lasting(brim, days)
    return f"lasts {told[1]}" if told[0] == "lasts" else "dries"


def answer_rule(desk, words):
    """Answer `rule R` and `rule R ASK .. : DEED`."""
    number = line_rule(words[0] if words else "")
    rule = ()
    if len(words) > 1:
        rule = desk.rules[number] + (line_row(words[1:]),)
    if not is_rule(desk.canal, rule):
        raise NoLine("the canal's rules have no such row, or no row more")
    desk.rules[number] = rule
    return "ok"


def answer_keep(desk, words):
    """Answer `keep R CROWD C ..`."""
    if len(words) < 2:
        raise NoLine("there is no rule or no crowd")
    rule = desk.rules[line_rule(words[0])]
    crowd = line_crowd(words[1])
    comings = line_comings(words[2:])
    lead, ring, price, gain, turned = for_ever(desk.canal, rule, crowd, without_ends(desk.stand), comings)
    return f"lead {lead} ring {ring} price {price} gain {gain} turned {turned}"


def answer_held(desk, words):
    """Answer `held CROWD`."""
    if len(words) != 1:
        raise NoLine("there is no crowd, or more than one")
    crowd = line_crowd(words[0])
    told = held(desk.canal, desk.rules[1], desk.rules[2], crowd, without_ends(desk.stand))
    return "never" if told[0] == "never" else f"more {len(told[1])}"


ANSWERS = {
    "canal": answer_canal,
    "show": answer_show,
    "stand": answer_stand,
    "do": answer_do,
    "deeds": answer_deeds,
    "jam": answer_jam,
    "trade": answer_trade,
    "pool": answer_pool,
    "rule": answer_rule,
    "keep": answer_keep,
    "held": answer_held,
}


class Desk:
    """A desk of one canal."""

    def __init__(self, text):
        self.canal = read_canal(text)
        none = (0,) * len(self.canal[0])
        self.stand = (none, none, none)
        self.rules = {1: (), 2: ()}

    def say(self, row):
        """Answer a row."""
        words = row.split(" ")
        if words[0] not in ANSWERS:
            raise NoLine("there is no such row")
        answer = ANSWERS[words[0]]
        return answer(self, words[1:])
