"""The desk: promise 32, and of promise 3 that its answers are those of the modules."""

import fractions
import random
import re
import unittest

from summitwater import errors
from summitwater.deeds import deed_done, deeds_at
from summitwater.desk import Desk
from summitwater.errors import NoLine, NoText, SummitError, TooMany
from summitwater.ever import for_ever
from summitwater.held import held
from summitwater.jams import jam
from summitwater.opened import open_row
from summitwater.pools import lasting
from summitwater.texts import read_stand, stand_text
from summitwater.trade import trade
from summitwater.words import canal_text, read_canal
from tests import test_met
from tests.keepers import is_plain_rule, paying_rule, random_ask, random_rule, springs
from tests.samples import CANALS, HILL, LONG, STEP, VALLEY, random_canals, random_stand
from tests.test_ever import BY_TURNS, FALLS, FILL_UPPER, falls, valley
from tests.test_held import BY_AND_BY, TWO_SPRINGS, AT_ONCE, fill_to
from tests.test_houses import OVER
from tests.test_jams import CHAIN, CROWD, DRY_HILL, FACING
from tests.test_opened import ONE_MORE, SIX_HUNDRED, opened
from tests.test_trade import hill

SINK = "end down chamber up end"
HILL_TEXT = canal_text(HILL)
HILL_EMPTY = "0:0:0 0:0:0 0:0:0 0:0:0 0:0:0"
NUMBER = "(?:0|[1-9][0-9]{0,15})"
DAY = "(?:0|-?[1-9][0-9]{0,15})"
# A row of each sort, of those that the hill's desk answers whatever it keeps.
ROWS = [
    "canal", "show", "stand " + HILL_EMPTY, "deeds", "pool 3 -1 2", "rule 1 least 2 1 : let 1", "rule 2", "keep 1 2 1 0",
    "held 0",
]


def rule_rows(number, rule):
    """The rows that put a rule's rows behind those of a desk's rule."""
    rows = []
    for asks, (word, place) in rule:
        words = [f"{ask[0]} {ask[1]} {ask[2]} " for ask in asks]
        rows.append(f"rule {number} {''.join(words)}: {word} {place}")
    return rows


def desk_of(canal, stand=None, first=(), second=()):
    desk = Desk(canal_text(canal))
    rows = rule_rows(1, first) + rule_rows(2, second)
    if stand is not None:
        rows.append("stand " + stand_text(stand))
    for row in rows:
        assert desk.say(row) == "ok"
    return desk


class PlainDesk:
    """A desk that finds out by patterns what a row is, and asks the modules."""

    def __init__(self, canal):
        self.canal = canal
        self.stand = ((0,) * len(canal[0]),) * 3
        self.rules = {"1": (), "2": ()}

    def answer(self, row):
        """The text, or the name of the refusal's class, with its field."""
        try:
            for name, pattern in PATTERNS:
                found = re.fullmatch(pattern, row)
                if found:
                    return getattr(self, name)(*found.groups())
            return ("NoLine",)
        except SummitError as refusal:
            return (type(refusal).__name__,) + ((refusal.at,) if isinstance(refusal, NoText) else ())

    def say_canal(self):
        return canal_text(self.canal)

    def say_show(self):
        return stand_text(self.stand)

    def say_stand(self, text):
        try:
            self.stand = read_stand(self.canal, text[1:])
        except NoText as refusal:
            return ("NoText", refusal.at + 1)
        return "ok"

    def say_do(self, word, number):
        self.stand, price, gain = deed_done(self.canal, self.stand, (word, int(number)))
        return f"price {price} gain {gain}"

    def say_deeds(self):
        return ", ".join(f"{word} {number}" for word, number in deeds_at(self.canal, self.stand)) or "-"

    def say_jam(self):
        return jam(self.canal, self.stand)[0]

    def say_trade(self):
        stand = opened(self.stand)
        told = trade(self.canal, stand)
        if told[0] == "least":
            return f"least {open_row(self.canal, stand, told[1])[2]}"
        behind, price, gain = open_row(self.canal, open_row(self.canal, stand, told[1])[0], told[2])
        share = fractions.Fraction(price, gain)
        return f"ring {share.numerator} {share.denominator}"

    def say_pool(self, brim, days):
        days = tuple(int(day) for day in days.split())
        if int(brim) > 10 ** 15 or len(days) > 60 or any(abs(day) >= 10 ** 15 for day in days):
            return ("NoLine",)
        told = lasting(int(brim), days)
        return "dries" if told[0] == "dries" else f"lasts {told[1]}"

    def say_rule(self, number, row):
        if not row:
            self.rules[number] = ()
            return "ok"
        asks, deed = row.split(":")
        asks = asks.split()
        asks = tuple((asks[at], int(asks[at + 1]), int(asks[at + 2])) for at in range(0, len(asks), 3))
        rule = self.rules[number] + ((asks, (deed.split()[0], int(deed.split()[1]))),)
        if not is_plain_rule(self.canal, rule):
            return ("NoLine",)
        self.rules[number] = rule
        return "ok"

    def say_keep(self, number, crowd, comings):
        comings = tuple(int(coming) for coming in comings.split())
        if len(comings) > 20:
            return ("NoLine",)
        told = for_ever(self.canal, self.rules[number], int(crowd), opened(self.stand), comings)
        return "lead {} ring {} price {} gain {} turned {}".format(*told)

    def say_held(self, crowd):
        told = held(self.canal, self.rules["1"], self.rules["2"], int(crowd), opened(self.stand))
        return "never" if told[0] == "never" else f"more {len(told[1])}"


PATTERNS = [
    ("say_canal", "canal"), ("say_show", "show"), ("say_deeds", "deeds"), ("say_jam", "jam"), ("say_trade", "trade"),
    ("say_stand", "stand((?s: .*)?)"),
    ("say_do", f"do (let|feed|right|left) ({NUMBER})"),
    ("say_pool", f"pool ({NUMBER})((?: {DAY})+)"),
    ("say_rule", f"rule ([12])((?: (?:least|most|right|left) {NUMBER} {NUMBER})* : (?:let|feed|right|left) {NUMBER})?"),
    ("say_keep", "keep ([12]) ([0-4])((?: [0-3])+)"),
    ("say_held", "held ([0-4])"),
]


class DeskTest(unittest.TestCase):
    """What all tests of the desk ask in common."""

    def assert_refused(self, desk, row, *asked):
        """A row is refused with a class and perhaps its field, and changes nothing."""
        before = (desk.canal, desk.stand, dict(desk.rules), desk.say("show"), desk.say("canal"))
        with self.assertRaises(SummitError, msg=repr(row)) as taken:
            desk.say(row)
        told = (type(taken.exception),) + ((taken.exception.at,) if isinstance(taken.exception, NoText) else ())
        self.assertEqual(told, asked, repr(row))
        self.assertEqual((desk.canal, desk.stand, dict(desk.rules), desk.say("show"), desk.say("canal")), before)

    def assert_said(self, desk, row, asked):
        told = desk.say(row)
        self.assertIs(type(told), str)
        self.assertEqual(told, asked, repr(row))


class MadeTest(DeskTest):
    def test_canals(self):
        for canal in CANALS + random_canals(291, 50):
            desk = Desk(canal_text(canal))
            self.assert_said(desk, "canal", canal_text(canal))
            self.assert_said(desk, "show", " ".join(["0:0:0"] * len(canal[0])))

    def test_no_canals(self):
        for text in ["", " ", "end", "end up end", "canal", HILL_TEXT + " ", " " + HILL_TEXT, HILL_TEXT + " up",
                     HILL_TEXT.upper(), HILL_TEXT + "\n", HILL_TEXT.replace(" ", "\t"), HILL_TEXT.replace("3", "03")]:
            with self.assertRaises(NoText) as asked:
                read_canal(text)
            with self.assertRaises(NoText) as taken:
                Desk(text)
            self.assertIs(type(taken.exception), NoText)
            self.assertEqual(taken.exception.at, asked.exception.at)


class AnswerTest(DeskTest):
    def test_stand_and_show(self):
        desk = Desk(HILL_TEXT)
        for text in ["0:5:0 1:0:0 3:1:1 0:0:1 0:3:9", HILL_EMPTY, "0:60:0 0:0:0 0:0:0 0:0:0 0:0:0"]:
            self.assert_said(desk, "stand " + text, "ok")
            self.assert_said(desk, "show", text)
            self.assert_said(desk, "show", text)
            self.assert_said(desk, "canal", HILL_TEXT)

    def test_do(self):
        desk = Desk(HILL_TEXT)
        self.assert_said(desk, "do feed 2", "price 7 gain 0")
        self.assert_said(desk, "show", "0:0:0 0:0:0 1:0:0 0:0:0 0:0:0")
        self.assert_said(desk, "do let 2", "price 0 gain 0")
        self.assert_said(desk, "show", "0:0:0 0:0:0 0:0:0 1:0:0 0:0:0")
        self.assert_said(desk, "do let 3", "price 0 gain 0")
        self.assert_said(desk, "stand 0:1:0 0:0:1 0:0:0 0:1:0 0:0:0", "ok")
        self.assert_said(desk, "do right 3", "price 0 gain 1")
        self.assert_said(desk, "do left 0", "price 0 gain 1")
        # Who comes to an end of this stand stays there, and who has left it doesn't wait any more.
        self.assert_said(desk, "show", "0:1:1 0:0:0 0:0:0 0:0:0 0:1:0")
        self.assert_said(desk, "do right 0", "price 0 gain 0")
        self.assert_refused(desk, "do right 0", errors.NoBarge)

    def test_do_refused(self):
        desk = Desk(HILL_TEXT)
        for stand, row, asked in [
            (HILL_EMPTY, "do let 4", "NoGate"), (HILL_EMPTY, "do let 9999999999999999", "NoGate"),
            (HILL_EMPTY, "do right 4", "NoGate"), (HILL_EMPTY, "do left 5", "NoGate"), (HILL_EMPTY, "do let 0", "Dry"),
            (HILL_EMPTY, "do let 1", "Dry"), ("0:0:0 1:0:0 1:0:0 0:0:0 0:0:0", "do let 1", "Full"),
            ("0:0:0 0:0:0 3:0:0 0:0:0 0:0:0", "do feed 2", "Full"), (HILL_EMPTY, "do feed 1", "NoSpring"),
            (HILL_EMPTY, "do feed 0", "NoSpring"), (HILL_EMPTY, "do feed 77", "NoSpring"),
            (HILL_EMPTY, "do right 0", "NoBarge"), (HILL_EMPTY, "do left 3", "NoBarge"),
            ("0:1:0 0:1:0 0:0:0 0:0:0 0:0:0", "do right 0", "NoRoom"),
            ("0:1:0 1:0:0 0:0:0 0:0:0 0:0:0", "do right 0", "Uneven"),
            ("0:0:0 0:1:0 3:0:0 0:0:0 0:0:0", "do right 1", "Uneven"),
            ("0:0:0 1:1:0 0:0:0 0:0:0 0:0:0", "do right 1", "Shallow"),
        ]:
            self.assert_said(desk, "stand " + stand, "ok")
            self.assert_refused(desk, row, getattr(errors, asked))
            self.assert_said(desk, "show", stand)

    def test_deeds(self):
        desk = Desk(HILL_TEXT)
        self.assert_said(desk, "deeds", "feed 2")
        desk.say("stand 0:1:0 0:0:0 1:0:0 0:0:0 0:0:1")
        self.assert_said(desk, "deeds", "let 1, let 2, feed 2, right 0, left 3")
        sink = Desk(SINK)
        self.assert_said(sink, "deeds", "let 0, let 1")
        sink.say("do let 1")
        self.assert_said(sink, "deeds", "-")

    def test_jam(self):
        self.assert_said(desk_of(CHAIN, FACING), "jam", "jam")
        self.assert_said(desk_of(CHAIN, CROWD), "jam", "jam")
        self.assert_said(desk_of(CHAIN), "jam", "free")
        # The barges at the ends count here.
        desk = desk_of(DRY_HILL)
        self.assert_said(desk, "jam", "free")
        desk.say("stand 0:1:0 0:0:0 0:0:0 0:0:0 0:0:0")
        self.assert_said(desk, "jam", "jam")
        self.assert_said(desk_of(*test_met.SIX_HUNDRED), "jam", "free")
        self.assert_refused(desk_of(*test_met.ONE_MORE), "jam", TooMany)

    def test_jams_of_which_fewer_meet_very_many_stands(self):
        # Few stands are met, but more than three thousand where the barge that holds all others is taken off.
        for canal, stand in [
            ("end up chamber down chamber up pound 7 3 4 99 down chamber down end",
             "0:0:0 0:0:0 1:1:0 0:0:4 0:0:0 0:0:2"),
            ("end down chamber up pound 6 5 3 87 down chamber down chamber down end",
             "0:0:0 1:1:0 3:1:2 1:0:1 0:1:0 0:0:1"),
            ("end up chamber down pound 1 0 3 1 down chamber up pound 6 0 3 1 up chamber down chamber up end",
             "0:0:0 0:1:0 1:3:0 1:1:0 0:0:3 0:1:0 0:1:0 0:1:0"),
        ]:
            desk = Desk(canal)
            desk.say("stand " + stand)
            self.assert_said(desk, "jam", "jam")

    def test_trade(self):
        self.assert_said(desk_of(hill(5)), "trade", "ring 5 1")
        self.assert_said(desk_of(hill(4)), "trade", "ring 4 1")
        self.assert_said(desk_of(valley(5)), "trade", "ring 5 2")
        self.assert_said(desk_of(valley(4)), "trade", "ring 2 1")
        self.assert_said(desk_of(valley(99)), "trade", "ring 99 2")
        for canal in (hill(0), valley(0), STEP):
            self.assert_said(desk_of(canal), "trade", "ring 0 1")
        dry = desk_of(DRY_HILL)
        self.assert_said(dry, "trade", "least 0")
        dry.say("stand 0:0:0 1:0:1 0:0:0 0:1:0 0:0:0")
        self.assert_said(dry, "trade", "least 2")
        # The barges at the ends are left out.
        dry.say("stand 0:9:9 1:0:1 0:0:0 0:1:0 0:9:9")
        self.assert_said(dry, "trade", "least 2")
        self.assert_said(dry, "show", "0:9:9 1:0:1 0:0:0 0:1:0 0:9:9")
        self.assertEqual(desk_of(*SIX_HUNDRED).say("trade")[:4], "ring")
        self.assert_refused(desk_of(*ONE_MORE), "trade", TooMany)

    def test_pool(self):
        desk = Desk(HILL_TEXT)
        self.assert_said(desk, "pool 10 -2 3", "lasts 2")
        self.assert_said(desk, "pool 1 -2 3", "dries")
        self.assert_said(desk, "pool 0 0", "lasts 0")
        self.assert_said(desk, "pool 0 -1", "dries")
        self.assert_said(desk, "pool 5 3 -4 1", "lasts 1")
        self.assert_said(desk, "pool 1000000000000000 -999999999999999 999999999999999", "lasts 999999999999999")
        self.assert_said(desk, "pool 999999999999998 -999999999999999 999999999999999", "dries")
        self.assert_said(desk, "pool 60" + " -1" * 59 + " 59", "lasts 59")
        self.assert_said(desk, "pool 58" + " -1" * 59 + " 59", "dries")

    def test_rules(self):
        desk = Desk(HILL_TEXT)
        self.assert_said(desk, "keep 1 0 0", "lead 0 ring 1 price 0 gain 0 turned 0")
        self.assert_said(desk, "rule 1 : feed 2", "ok")
        self.assert_said(desk, "keep 1 0 0", "lead 3 ring 1 price 0 gain 0 turned 0")
        self.assert_said(desk, "keep 2 0 0", "lead 0 ring 1 price 0 gain 0 turned 0")
        self.assert_said(desk, "rule 2 most 2 1 : feed 2", "ok")
        self.assert_said(desk, "keep 2 0 0", "lead 2 ring 1 price 0 gain 0 turned 0")
        self.assert_said(desk, "held 0", "more 3")
        # A row is put behind the others: lets are tried behind feeds.
        self.assert_said(desk, "rule 2 : let 3", "ok")
        self.assert_said(desk, "rule 2 : let 2", "ok")
        self.assert_said(desk, "keep 2 0 0", "lead 2 ring 3 price 7 gain 0 turned 0")
        self.assert_said(desk, "held 0", "more 3")
        self.assert_said(desk, "do feed 2", "price 7 gain 0")
        self.assert_said(desk, "do feed 2", "price 7 gain 0")
        self.assert_said(desk, "do feed 2", "price 7 gain 0")
        self.assert_said(desk, "held 0", "never")
        self.assert_said(desk, "stand " + HILL_EMPTY, "ok")
        self.assert_said(desk, "rule 2", "ok")
        self.assert_said(desk, "keep 2 0 0", "lead 0 ring 1 price 0 gain 0 turned 0")
        self.assert_said(desk, "held 0", "more 1")
        self.assert_said(desk, "rule 1", "ok")
        self.assert_said(desk, "rule 1", "ok")
        self.assert_said(desk, "held 0", "never")

    def test_twelve_rows(self):
        desk = Desk(HILL_TEXT)
        for number in ("1", "2"):
            for many in range(12):
                self.assert_said(desk, f"rule {number} least 2 1 most 2 9 right 0 0 left 4 0 : let 1", "ok")
            for many in range(2):
                self.assert_refused(desk, f"rule {number} : let 1", NoLine)
            self.assert_said(desk, f"rule {number}", "ok")
            self.assert_said(desk, f"rule {number} : let 1", "ok")
        for many in range(11):
            self.assert_said(desk, "rule 1 : feed 4", "ok")
        self.assert_refused(desk, "rule 1 : feed 2", NoLine)
        self.assert_said(desk, "rule 2 : feed 2", "ok")
        # The thirteenth row, which would have fed, is not there.
        self.assert_said(desk, "keep 1 0 0", "lead 0 ring 1 price 0 gain 0 turned 0")
        self.assert_said(desk, "keep 2 0 0", "lead 5 ring 1 price 0 gain 0 turned 0")

    def test_rows_of_rules(self):
        desk = Desk(HILL_TEXT)
        for word in ("least", "most", "right", "left"):
            for place in range(5):
                for number in (0, 1, 9):
                    self.assert_said(desk, f"rule 1 {word} {place} {number} : feed 2", "ok")
                    desk.say("rule 1")
        for word, most in (("let", 3), ("right", 3), ("left", 3), ("feed", 4)):
            for number in range(most + 1):
                self.assert_said(desk, f"rule 2 : {word} {number}", "ok")
                desk.say("rule 2")
            for number in (most + 1, most + 2, 9999999999999999):
                self.assert_refused(desk, f"rule 2 : {word} {number}", NoLine)
        for asks in ["least 5 1", "least 0 10", "least 9999999999999999 1", "most 0 9999999999999999", "fewest 0 1"]:
            self.assert_refused(desk, f"rule 1 {asks} : feed 2", NoLine)

    def test_keep(self):
        desk = desk_of(HILL, None, OVER, BY_TURNS)
        told = for_ever(HILL, OVER, 2, opened(read_stand(HILL, HILL_EMPTY)), (1, 0, 3))
        self.assertGreater(told[3], 0)
        asked = "lead {} ring {} price {} gain {} turned {}".format(*told)
        self.assert_said(desk, "keep 1 2 1 0 3", asked)
        # The barges at the ends are left out, and stay.
        self.assert_said(desk, "stand 0:7:7 0:0:0 0:0:0 0:0:0 0:7:7", "ok")
        self.assert_said(desk, "keep 1 2 1 0 3", asked)
        self.assert_said(desk, "show", "0:7:7 0:0:0 0:0:0 0:0:0 0:7:7")
        plain = PlainDesk(HILL)
        plain.rules["2"] = BY_TURNS
        for crowd in range(5):
            for comings in (" 0" * 20, " 3 2 1 0" * 5):
                self.assert_said(desk, f"keep 2 {crowd}" + comings, plain.say_keep("2", crowd, comings))

    def test_keep_for_six_hundred_hours(self):
        comings = " 1" * 20
        desk = desk_of(FALLS, falls(0, 4, 0, 7, 0), FILL_UPPER)
        self.assert_said(desk, "keep 1 0" + comings, "lead 20 ring 580 price 900 gain 0 turned 580")
        desk = desk_of(FALLS, falls(0, 3, 0, 7, 0), FILL_UPPER)
        self.assert_refused(desk, "keep 1 0" + comings, TooMany)

    def test_held(self):
        desk = desk_of(FALLS, falls(0, 0, 0, 5, 0), fill_to(9), fill_to(6))
        self.assert_said(desk, "held 0", "more 17")
        desk = desk_of(FALLS, falls(0, 0, 0, 5, 1), fill_to(9), fill_to(6))
        self.assert_refused(desk, "held 0", TooMany)
        nobody = (0,) * 7
        desk = desk_of(TWO_SPRINGS, ((0, 0, 0, 0, 1, 0, 0), nobody, nobody), BY_AND_BY, AT_ONCE)
        self.assert_said(desk, "held 0", "more 300")
        desk.say("stand 0:9:9 0:0:0 0:0:0 0:0:0 1:0:0 1:0:0 0:9:9")
        self.assert_refused(desk, "held 0", TooMany)
        # The barges at the ends are left out.
        desk.say("stand 0:9:9 0:0:0 0:0:0 0:0:0 1:0:0 0:0:0 0:9:9")
        for crowd in range(5):
            self.assert_said(desk, f"held {crowd}", "more 300")

    def test_two_desks(self):
        one = Desk(HILL_TEXT)
        other = Desk(HILL_TEXT)
        one.say("do feed 2")
        one.say("rule 1 : feed 2")
        self.assert_said(other, "show", HILL_EMPTY)
        self.assert_said(other, "keep 1 0 0", "lead 0 ring 1 price 0 gain 0 turned 0")
        other.say("stand 0:1:0 0:0:0 0:0:0 0:0:0 0:0:0")
        self.assert_said(one, "show", "0:0:0 0:0:0 1:0:0 0:0:0 0:0:0")
        self.assert_said(one, "keep 1 0 0", "lead 2 ring 1 price 0 gain 0 turned 0")
        for number in range(12):
            other.say("rule 2 : let 0")
        self.assert_said(one, "rule 2 : let 0", "ok")


class NoLineTest(DeskTest):
    def test_other_rows(self):
        desk = Desk(HILL_TEXT)
        for row in [
            "", " ", "x", "help", "Canal", "SHOW", "canals", "canal show", "show 1", "deeds -", "jam 600", "trade 600",
            "canal ", " canal", "canal\n", "\ncanal", "canal\t", "show ", "deeds ", " jam", "trade\n", "jam  ",
            "stand\t" + HILL_EMPTY, "Stand " + HILL_EMPTY, " stand " + HILL_EMPTY, "stands " + HILL_EMPTY, "do",
            "do ", "do let", "do let ", "do 1", "do let 1 1", "do  let 1", "do let  1", " do let 1", "do let 1 ",
            "Do let 1", "do Let 1", "do lets 1", "do least 1", "do let one", "do let -1", "do let +1", "do let 01",
            "do let 00", "do let -0", "do let 1\n", "do let\t1", "do let 1.0", "do feed -1", "do feed 02",
            "do let 10000000000000000", "do feed 99999999999999999", "do let 1, let 2", "do do let 1", "let 1",
            "do right 1 0", "do -", "do let 1_0", "do let 0x1",
        ]:
            self.assert_refused(desk, row, NoLine)

    def test_pools(self):
        desk = Desk(HILL_TEXT)
        for row in [
            "pool", "pool ", "pool 1", "pool 1 ", "pool -1 1", "pool 1000000000000001 1", "pool 1 1000000000000000",
            "pool 1 -1000000000000000", "pool 01 1", "pool 1 01", "pool 1 -01", "pool 1 -0", "pool 1 --1", "pool 1 -",
            "pool 1 +1", "pool +1 1", "pool 1 1 ", "pool 1  1", "pool 1 1\n", "pool 1 1\t1", "pool x 1", "pool 1 x",
            "pool 10000000000000000 1", "pool 1 10000000000000000", "pool 1" + " 0" * 61, "pool 1" + " 0" * 100,
            "pool 1 1 -0 1", "pool 1,1", "POOL 1 1", "pool -0 1", "pool 0 1 -", "pool 1 - 1", "pool 1 1-",
        ]:
            self.assert_refused(desk, row, NoLine)
        self.assert_said(desk, "pool 1" + " 0" * 60, "lasts 0")

    def test_rules(self):
        desk = Desk(HILL_TEXT)
        for row in [
            "rule", "rule ", "rule 0", "rule 3", "rule 01", "rule -1", "rule x", "rule 1 ", "rule  1", "rule 1\n",
            "rule 1 2", "rule 1 :", "rule 1 : ", "rule 1 : let", "rule 1 let 1", "rule 1 : let 1 1", "rule 1 : let 1 ",
            "rule 1 : let  1", "rule 1  : let 1", "rule 1 :let 1", "rule 1: let 1", "rule 1 : : let 1",
            "rule 1 : let 4", "rule 1 : right 4", "rule 1 : left 4", "rule 1 : feed 5", "rule 1 : let -1",
            "rule 1 : let 01", "rule 1 : Let 1", "rule 1 : least 1", "rule 1 least : let 1", "rule 1 least 1 : let 1",
            "rule 1 1 1 : let 1", "rule 1 least 1 1 1 : let 1", "rule 1 least 1 1 most : let 1",
            "rule 1 least 5 1 : let 1", "rule 1 least 1 10 : let 1", "rule 1 least -1 1 : let 1",
            "rule 1 least 1 -1 : let 1", "rule 1 least 01 1 : let 1", "rule 1 least 1 01 : let 1",
            "rule 1 Least 1 1 : let 1", "rule 1 let 1 1 : let 1", "rule 1 feed 2 1 : let 1", "rule 1 : 1 1 : let 1",
            "rule 1 least 1 1 let 1", "rule 1 least 1 1, most 1 1 : let 1", "rule 1" + " least 1 1" * 5 + " : let 1",
            "rule 1" + " least 1 1" * 100 + " : let 1", "rule : let 1", "rule 3 : let 1", "rule 0 : let 1",
            "rule 1 2 : let 1", "rule 1 : let 1 : let 1", "rule 1 let 1 :", "rule 1 : let 10000000000000000",
            "rule 1 least 10000000000000000 1 : let 1", "rule 1 least 1\t1 : let 1", "rule 1 : let 1\n",
            "Rule 1 : let 1", "rule 12", "rule 1 : let :", "rule 1 least : 1 : let 1",
        ]:
            self.assert_refused(desk, row, NoLine)
        self.assert_said(desk, "rule 1" + " least 1 1" * 4 + " : let 1", "ok")

    def test_keepers(self):
        desk = Desk(HILL_TEXT)
        for row in [
            "keep", "keep ", "keep 1", "keep 1 ", "keep 1 1", "keep 1 1 ", "keep 0 1 1", "keep 3 1 1", "keep 1 5 1",
            "keep 1 -1 1", "keep 1 1 4", "keep 1 1 -1", "keep 1 1 1 4 1", "keep 1 1 01", "keep 1 01 1", "keep 01 1 1",
            "keep  1 1 1", "keep 1 1  1", "keep 1 1 1 ", "keep 1 1 1\n", "keep 1 1 1\t1", "keep 1 1 x", "keep x 1 1",
            "keep 1 x 1", "keep 1 1" + " 0" * 21, "keep 1 1" + " 0" * 50, "Keep 1 1 1", "keep 1 1 1,1", "keep 10 1 1",
            "held", "held ", "held 5", "held -1", "held 01", "held 1 ", "held 1 1", "held  1", "held x", "held 1\n",
            "Held 1", "held 10", "held +1", "held 1 2 1",
        ]:
            self.assert_refused(desk, row, NoLine)
        self.assert_said(desk, "keep 1 1" + " 0" * 20, "lead 0 ring 20 price 0 gain 0 turned 0")

    def test_no_line_goes_first(self):
        # These would be refused otherwise too.
        desk = desk_of(*ONE_MORE)
        for row in ["jam ", "trade x", "trade  ", "do let 99 ", "do feed 00"]:
            self.assert_refused(desk, row, NoLine)
        self.assert_refused(desk, "trade", TooMany)
        desk = desk_of(FALLS, falls(0, 3, 0, 7, 0), FILL_UPPER)
        self.assert_refused(desk, "keep 1 0" + " 1" * 21, NoLine)
        self.assert_refused(desk, "keep 1 0" + " 1" * 19 + " 4", NoLine)
        desk = desk_of(FALLS, falls(0, 0, 0, 5, 1), fill_to(9), fill_to(6))
        self.assert_refused(desk, "held 0 ", NoLine)
        self.assert_refused(desk, "held 0", TooMany)


class NoTextTest(DeskTest):
    def test_words_of_stands(self):
        desk = Desk(HILL_TEXT)
        desk.say("do feed 2")
        words = HILL_EMPTY.split(" ")
        self.assert_refused(desk, "stand", NoText, 1)
        self.assert_refused(desk, "stand ", NoText, 1)
        self.assert_refused(desk, "stand  " + HILL_EMPTY, NoText, 1)
        self.assert_refused(desk, "stand " + HILL_EMPTY + " ", NoText, 6)
        self.assert_refused(desk, "stand " + HILL_EMPTY + "\n", NoText, 5)
        self.assert_refused(desk, "stand \t" + HILL_EMPTY, NoText, 1)
        self.assert_refused(desk, "stand " + HILL_EMPTY + " 0:0:0", NoText, 6)
        self.assert_refused(desk, "stand stand " + HILL_EMPTY, NoText, 1)
        for many in range(1, 5):
            self.assert_refused(desk, " ".join(["stand"] + words[:many]), NoText, many + 1)
        for at in range(5):
            for word in ["", "x", "10:0:0", "0:61:0", "0:0", "00:0:0", "-1:0:0", "0:0:0:0"]:
                self.assert_refused(desk, " ".join(["stand"] + words[:at] + [word] + words[at + 1:]), NoText, at + 1)
        self.assert_refused(desk, "stand 0:60:0 0:1:0 0:0:0 0:0:0 0:0:0", NoText, 2)
        self.assert_said(desk, "show", "0:0:0 0:0:0 1:0:0 0:0:0 0:0:0")


def random_rows(source, canal):
    """Any row that is one by its words, often one that is answered."""
    places = len(canal[0])
    number = source.choice(["0", "1", "2", str(source.randrange(places)), str(source.randrange(places)), "9"])
    deed = source.choice(["let", "feed", "right", "left"]) + " " + number
    if springs(canal) and source.random() < 0.3:
        deed = "{} {}".format(*source.choice(springs(canal)))
    rule = source.choice("12")
    asks = "".join("{} {} {} ".format(*random_ask(source, canal)) for many in range(source.choice([0, 0, 1, 1, 2, 4])))
    days = " ".join(str(source.randint(-9, 9)) for many in range(source.choice([1, 2, 5, 60])))
    comings = " ".join(source.choice("0123") for many in range(source.choice([1, 2, 3, 20])))
    return source.choice([
        "canal", "show", "deeds", "jam", "trade", "stand " + stand_text(random_stand(source, canal, 2)),
        "stand " + stand_text(random_stand(source, canal, 2)), "do " + deed, "do " + deed, "do " + deed,
        f"pool {source.randint(0, 40)} {days}", f"rule {rule} {asks}: {deed}", f"rule {rule} {asks}: {deed}",
        f"rule {rule} {asks}: {deed}", f"rule {rule}" if source.random() < 0.2 else "show",
        f"keep {rule} {source.randint(0, 4)} {comings}", f"held {source.randint(0, 4)}",
    ])


def spoilt(source, row):
    """The row with a change somewhere: it may still be one."""
    words = row.split(" ")
    at = source.randrange(len(words))
    change = source.randrange(8)
    if change == 0:
        del words[at]
    elif change == 1:
        words.insert(at, words[source.randrange(len(words))])
    elif change == 2:
        words.insert(at, "")
    elif change == 3:
        words[at] = source.choice(["0", "1", "3", "4", "5", "12", "-1", "01", "-0", "x", "", ":", "10000000000000000"])
    elif change == 4:
        words[at] = words[at].upper()
    elif change == 5:
        words[at] += source.choice(["\n", "\t", " ", "0", "x"])
    elif change == 6:
        words += words[at:]
    else:
        words[at] = source.choice(["let", "feed", "right", "left", "least", "most", "rule", "stand", "keep", "0:0:0"])
    return " ".join(words)


class SessionTest(DeskTest):
    """Long rows of rows, held against a desk that asks the modules."""

    def assert_answer(self, desk, plain, row):
        asked = plain.answer(row)
        if isinstance(asked, str):
            self.assert_said(desk, row, asked)
        else:
            self.assert_refused(desk, row, getattr(errors, asked[0]), *asked[1:])
        return asked

    def test_rows_in_every_order(self):
        source = random.Random(292)
        for number in range(60):
            desk = Desk(HILL_TEXT)
            plain = PlainDesk(HILL)
            rows = ROWS + ["do feed 2", "do let 2", "do let 3", "rule 1 : feed 2", "rule 2 : feed 2"]
            source.shuffle(rows)
            for row in rows:
                self.assert_answer(desk, plain, row)

    def test_any_rows(self):
        source = random.Random(293)
        refusals = set()
        answers = set()
        for number in range(120):
            canal = source.choice([STEP, HILL, VALLEY, CHAIN, DRY_HILL, hill(3), valley(6)] + random_canals(number, 5))
            desk = Desk(canal_text(canal))
            plain = PlainDesk(canal)
            for many in range(40):
                row = random_rows(source, canal)
                if row == "jam" and len(canal[0]) > 5:
                    continue
                asked = self.assert_answer(desk, plain, row)
                if isinstance(asked, str):
                    answers.add(row.split(" ")[0] + " " + asked.split(" ")[0])
                else:
                    refusals.add(asked[0])
            self.assert_answer(desk, plain, "show")
        for answer in ["jam jam", "jam free", "trade ring", "trade least", "pool lasts", "pool dries", "held never",
                       "held more", "keep lead", "do price", "rule ok", "stand ok"]:
            self.assertIn(answer, answers)
        for name in ["NoLine", "NoGate", "Dry", "Full", "NoSpring", "NoBarge", "NoRoom", "Uneven", "Shallow",
                     "TooMany"]:
            self.assertIn(name, refusals)

    def test_spoilt_rows(self):
        source = random.Random(294)
        answers = {True: 0, False: 0}
        for number in range(80):
            canal = source.choice([STEP, HILL, VALLEY, LONG])
            desk = Desk(canal_text(canal))
            plain = PlainDesk(canal)
            for many in range(60):
                row = spoilt(source, random_rows(source, canal))
                if row != "jam":
                    answers[isinstance(self.assert_answer(desk, plain, row), str)] += 1
        self.assertGreater(min(answers.values()), 200)

    def test_rules_of_texts(self):
        source = random.Random(295)
        for canal in random_canals(296, 60):
            rules = (paying_rule(source, canal), random_rule(source, canal))
            stand = random_stand(source, canal, 3)
            desk = desk_of(canal, stand, *rules)
            plain = PlainDesk(canal)
            plain.stand = stand
            plain.rules = {"1": rules[0], "2": rules[1]}
            for number in range(4):
                comings = " ".join(source.choice("0123") for many in range(source.randint(1, 20)))
                self.assert_answer(desk, plain, f"keep {source.choice('12')} {source.randint(0, 4)} {comings}")
            self.assert_answer(desk, plain, f"held {source.randint(0, 2)}")


if __name__ == "__main__":
    unittest.main()
