"""Rules for keepers: promise 24."""

import copy
import random
import unittest

from summitwater.rules import is_rule
from tests.keepers import canal_deeds, is_plain_rule, random_houses, random_rule, turned_rule
from tests.samples import CANALS, HILL, LONG, STEP, THINGS, altered, kinds_of, random_canals, replaced

ASK = ("least", 2, 1)
DEED = ("let", 1)
ROW = ((ASK,), DEED)


class IsRuleTest(unittest.TestCase):
    def assert_told(self, canal, thing, asked):
        before = copy.deepcopy((canal, thing))
        self.assertIs(is_rule(canal, thing), asked, (canal, thing))
        self.assertEqual(kinds_of((canal, thing)), kinds_of(before))

    def test_many_rows(self):
        for canal in CANALS:
            for many in range(13):
                self.assert_told(canal, (((), ("let", 0)),) * many, True)
            for many in (13, 14, 100):
                self.assert_told(canal, (((), ("let", 0)),) * many, False)

    def test_many_asks(self):
        for canal in CANALS:
            for many in range(5):
                self.assert_told(canal, (((ASK,) * many, DEED),), True)
            for many in (5, 6, 100):
                self.assert_told(canal, (((ASK,) * many, DEED),), False)
                self.assert_told(canal, (ROW,) * 11 + (((ASK,) * many, DEED),), False)
        self.assert_told(LONG, (((ASK,) * 4, DEED),) * 12, True)

    def test_asks(self):
        for canal in CANALS:
            last = len(canal[0]) - 1
            for word in ("least", "most", "right", "left"):
                for place in range(last + 1):
                    for number in range(10):
                        self.assert_told(canal, ((((word, place, number),), DEED),), True)
                for number in (-1, 10, 11, -9, 10 ** 59, -(10 ** 59), True, False, None, "1", (1,), [1]):
                    self.assert_told(canal, ((((word, 1, number),), DEED),), False)
                for place in (-1, last + 1, last + 2, -last, 10 ** 59, True, False, None, "1", (1,), [1]):
                    self.assert_told(canal, ((((word, place, 1),), DEED),), False)
            for word in ("", "Least", "MOST", "let", "feed", "fewest", "up", "least ", 0, None, True, ("least",), []):
                self.assert_told(canal, ((((word, 1, 1),), DEED),), False)

    def test_a_truth_in_a_number_s_place(self):
        for word in ("least", "most", "right", "left"):
            self.assert_told(HILL, ((((word, 1, 1),), DEED),), True)
            self.assert_told(HILL, ((((word, True, 1),), DEED),), False)
            self.assert_told(HILL, ((((word, 1, True),), DEED),), False)
        for word in ("let", "feed", "right", "left"):
            self.assert_told(HILL, (((), (word, 1)),), True)
            self.assert_told(HILL, (((), (word, True)),), False)
            self.assert_told(HILL, (((), (word, False)),), False)

    def test_deeds(self):
        for canal in CANALS:
            for deed in canal_deeds(canal):
                self.assert_told(canal, (((), deed),), True)
                self.assert_told(canal, (ROW, ((ASK,), deed), ROW), True)
            last = len(canal[1])
            for word in ("let", "right", "left", "feed"):
                # There is a place of the number that is one beyond the gates.
                self.assert_told(canal, (((), (word, last)),), word == "feed")
                self.assert_told(canal, (((), (word, last - 1)),), True)
                for number in (-1, last + 1, last + 2, -last, 10 ** 59, None, "1", (1,), [1]):
                    self.assert_told(canal, (((), (word, number)),), False)
            for word in ("", "Let", "least", "most", "up", "let ", 0, None, True, ("let",), ["let"]):
                self.assert_told(canal, (((), (word, 1)),), False)

    def test_lists_for_tuples(self):
        self.assert_told(HILL, (ROW,), True)
        for thing in [[ROW], ([(ASK,), DEED],), (([ASK], DEED),), (((list(ASK),), DEED),), (((ASK,), list(DEED)),)]:
            self.assert_told(HILL, thing, False)
        self.assert_told(HILL, [], False)
        self.assert_told(HILL, (([], DEED),), False)

    def test_longer_and_shorter_tuples(self):
        asks = (ASK,)
        for row in [(), (asks,), (asks, DEED, DEED), (asks, DEED, None), (DEED, asks), (DEED,), asks, DEED]:
            self.assert_told(HILL, (row,), False)
        for ask in [(), ("least",), ("least", 2), ASK + (1,), ASK + (None,), (2, 1), (2, "least", 1)]:
            self.assert_told(HILL, (((ask,), DEED),), False)
        for deed in [(), ("let",), ("let", 1, 1), (1,), (1, "let"), ("let", 1, None)]:
            self.assert_told(HILL, ((asks, deed),), False)
        # What a rule holds, by itself, and a rule within another tuple.
        for thing in [ROW, asks, ASK, DEED, ((ROW,),), (ROW, None), (None, ROW), (ROW, ())]:
            self.assert_told(HILL, thing, False)

    def test_other_things(self):
        for canal in CANALS:
            for thing in THINGS + [THINGS, tuple(THINGS), canal]:
                self.assert_told(canal, thing, thing == ())
                self.assert_told(canal, (thing,), False)
                self.assert_told(canal, (ROW, thing), False)
                self.assert_told(canal, ((thing, DEED),), thing == ())
                self.assert_told(canal, ((((thing,), DEED)),), False)
                self.assert_told(canal, (((ASK,), thing),), False)
                for at in range(3):
                    asked = is_plain_rule(canal, (((replaced(ASK, at, thing),), DEED),))
                    self.assert_told(canal, (((replaced(ASK, at, thing),), DEED),), asked)

    def test_any_rules(self):
        for canal, rule, crowd, stand in random_houses(201, 150):
            self.assert_told(canal, rule, True)
            self.assert_told(canal, turned_rule(canal, rule), True)

    def test_rules_of_another_canal(self):
        source = random.Random(202)
        answers = {True: 0, False: 0}
        canals = random_canals(203, 60)
        for canal in canals:
            rule = random_rule(source, canal)
            for other in canals[:10] + [STEP, LONG]:
                asked = is_plain_rule(other, rule)
                self.assert_told(other, rule, asked)
                answers[asked] += 1
        self.assertGreater(min(answers.values()), 100)

    def test_altered(self):
        source = random.Random(204)
        answers = {True: 0, False: 0}
        for canal, rule, crowd, stand in random_houses(205, 150):
            for number in range(30):
                thing = altered(source, rule)
                asked = is_plain_rule(canal, thing)
                self.assert_told(canal, thing, asked)
                answers[asked] += 1
        self.assertGreater(min(answers.values()), 300)


if __name__ == "__main__":
    unittest.main()
