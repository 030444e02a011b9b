"""Houses kept by a rule, hour by hour: promises 25 and 26, and of 3 and 12 that nobody and no water is lost."""

import copy
import random
import unittest

from summitwater.canals import turned_canal
from summitwater.houses import hour, is_house, kept
from summitwater.stands import is_stand, turned_stand
from tests.keepers import canal_deeds, is_plain_house, plain_hour, plain_keeping, random_houses, turned_comings
from tests.keepers import turned_rule
from tests.samples import CANALS, CHAMBER, END, HILL, STEP, THINGS, altered, kinds_of, replaced

NONE = (0, 0, 0, 0, 0)
EMPTY = (NONE, NONE, NONE)
COMINGS = (0, 1, 2, 3)
# Right barges go all the way over the hill by these.
OVER = (
    ((), ("right", 3)),
    ((), ("right", 2)),
    ((), ("right", 1)),
    ((), ("right", 0)),
    ((("right", 1, 1),), ("let", 1)),
    ((("right", 3, 1),), ("let", 3)),
    ((("right", 2, 1),), ("let", 2)),
    ((("most", 2, 1),), ("feed", 2)),
    ((("right", 0, 1),), ("let", 0)),
)


def waiting(rights, lefts, levels=NONE):
    """A stand of five places with so many who wait."""
    return (levels, (rights, 0, 0, 0, 0), (0, 0, 0, 0, lefts))


class IsHouseTest(unittest.TestCase):
    def assert_told(self, canal, crowd, thing, asked):
        before = copy.deepcopy((canal, thing))
        self.assertIs(is_house(canal, crowd, thing), asked, (canal, crowd, thing))
        self.assertEqual(kinds_of((canal, thing)), kinds_of(before))

    def test_who_waits(self):
        for crowd in range(5):
            for rights in range(8):
                for lefts in range(8):
                    asked = rights <= crowd and lefts <= crowd
                    self.assert_told(HILL, crowd, waiting(rights, lefts), asked)
                    self.assert_told(HILL, crowd, waiting(rights, lefts, (0, 1, 3, 1, 0)), asked)

    def test_who_has_come(self):
        for crowd in range(5):
            for many in (1, 2, 4, 5):
                self.assert_told(HILL, crowd, (NONE, (0, 0, 0, 0, many), NONE), False)
                self.assert_told(HILL, crowd, (NONE, NONE, (many, 0, 0, 0, 0)), False)

    def test_houses(self):
        for canal in CANALS:
            for crowd in range(5):
                self.assert_told(canal, crowd, ((0,) * len(canal[0]),) * 3, True)
        for canal, rule, crowd, stand in random_houses(211, 200):
            self.assert_told(canal, crowd, stand, True)
            self.assert_told(canal, 4, stand, True)

    def test_no_stands(self):
        for row in range(3):
            for at in range(5):
                for other in [True, False, None, "0", -1, 99, (0,), [0]]:
                    self.assert_told(HILL, 4, replaced(EMPTY, row, replaced(NONE, at, other)), False)
        for thing in [[NONE] * 3, (NONE,) * 2, (NONE,) * 4, (list(NONE), NONE, NONE), (NONE, NONE, list(NONE))]:
            self.assert_told(HILL, 4, thing, False)
        self.assert_told(HILL, 4, ((0, 0, 4, 0, 0), NONE, NONE), False)
        self.assert_told(HILL, 4, ((1, 0, 0, 0, 0), NONE, NONE), False)
        self.assert_told(HILL, 4, (NONE, (0, 2, 0, 0, 0), NONE), False)
        self.assert_told(HILL, 4, (NONE, (0, 0, 2, 0, 0), (0, 0, 1, 0, 0)), False)
        self.assert_told(STEP, 4, EMPTY, False)

    def test_altered(self):
        source = random.Random(212)
        answers = {True: 0, False: 0}
        for canal, rule, crowd, stand in random_houses(213, 200):
            for number in range(20):
                thing = altered(source, stand)
                asked = is_plain_house(canal, crowd, thing)
                self.assert_told(canal, crowd, thing, asked)
                answers[asked] += 1
        self.assertGreater(min(answers.values()), 200)

    def test_other_things(self):
        for canal in CANALS:
            for crowd in (0, 4):
                for thing in THINGS + [THINGS, tuple(THINGS), canal]:
                    self.assert_told(canal, crowd, thing, False)
                    self.assert_told(canal, crowd, (thing,) * 3, False)


class HourTest(unittest.TestCase):
    def assert_hour(self, canal, rule, crowd, stand, coming, asked):
        before = repr((canal, rule, crowd, stand, coming))
        self.assertEqual(kinds_of(hour(canal, rule, crowd, stand, coming)), kinds_of(asked))
        self.assertEqual(repr((canal, rule, crowd, stand, coming)), before)

    def test_comings(self):
        for crowd in range(5):
            for rights in range(crowd + 1):
                for lefts in range(crowd + 1):
                    for coming in COMINGS:
                        right = coming in (1, 3)
                        left = coming in (2, 3)
                        behind = waiting(min(crowd, rights + right), min(crowd, lefts + left))
                        turned = (right and rights == crowd) + (left and lefts == crowd)
                        self.assert_hour(HILL, (), crowd, waiting(rights, lefts), coming, (behind, None, 0, 0, turned))

    def test_turned_away(self):
        self.assert_hour(HILL, (), 0, EMPTY, 3, (EMPTY, None, 0, 0, 2))
        self.assert_hour(HILL, (), 2, waiting(2, 1), 3, (waiting(2, 2), None, 0, 0, 1))
        self.assert_hour(HILL, (), 2, waiting(1, 2), 3, (waiting(2, 2), None, 0, 0, 1))
        self.assert_hour(HILL, (), 2, waiting(2, 0), 1, (waiting(2, 0), None, 0, 0, 1))
        self.assert_hour(HILL, (), 2, waiting(0, 2), 2, (waiting(0, 2), None, 0, 0, 1))
        self.assert_hour(HILL, (), 2, waiting(2, 2), 0, (waiting(2, 2), None, 0, 0, 0))

    def test_who_comes_is_turned_away_ahead_of_the_deed(self):
        # The one who waits goes in this hour, but not before the other one was turned away.
        behind = (NONE, (0, 1, 0, 0, 0), NONE)
        self.assert_hour(HILL, OVER, 1, waiting(1, 0), 1, (behind, ("right", 0), 0, 0, 1))

    def test_who_comes_may_go_in_the_hour(self):
        behind = (NONE, (0, 1, 0, 0, 0), NONE)
        self.assert_hour(HILL, OVER, 1, EMPTY, 1, (behind, ("right", 0), 0, 0, 0))
        behind = (NONE, NONE, (0, 0, 0, 1, 0))
        self.assert_hour(HILL, (((("left", 4, 1),), ("left", 3)),), 1, EMPTY, 2, (behind, ("left", 3), 0, 0, 0))
        # Who is turned away doesn't.
        self.assert_hour(HILL, OVER[:4], 0, EMPTY, 3, (EMPTY, None, 0, 0, 2))

    def test_asks_see_who_comes(self):
        rule = (((("right", 0, 2),), ("feed", 2)),)
        fed = waiting(2, 0, (0, 0, 1, 0, 0))
        self.assert_hour(HILL, rule, 2, waiting(1, 0), 1, (fed, ("feed", 2), 7, 0, 0))
        self.assert_hour(HILL, rule, 2, waiting(1, 0), 2, (waiting(1, 1), None, 0, 0, 0))
        rule = (((("left", 4, 1),), ("feed", 2)),)
        fed = waiting(0, 1, (0, 0, 1, 0, 0))
        self.assert_hour(HILL, rule, 1, EMPTY, 2, (fed, ("feed", 2), 7, 0, 0))
        self.assert_hour(HILL, rule, 0, EMPTY, 2, (EMPTY, None, 0, 0, 1))

    def test_asks_that_just_hold(self):
        stand = ((0, 1, 2, 0, 0), (2, 0, 1, 0, 0), (0, 1, 1, 0, 3))
        for row, words in enumerate([("least", "most"), ("right",), ("left",)]):
            for word in words:
                for place in range(5):
                    there = stand[row][place]
                    for number in range(10):
                        holds = there <= number if word == "most" else there >= number
                        rule = ((((word, place, number),), ("feed", 2)),)
                        told = hour(HILL, rule, 4, stand, 0)
                        self.assertEqual(told[1], ("feed", 2) if holds else None, (word, place, number))

    def test_all_asks_must_hold(self):
        holds = ("least", 2, 0)
        fails = ("least", 2, 1)
        fed = ((0, 0, 1, 0, 0), NONE, NONE)
        for many in range(5):
            rule = (((holds,) * many, ("feed", 2)),)
            self.assert_hour(HILL, rule, 0, EMPTY, 0, (fed, ("feed", 2), 7, 0, 0))
        for many in range(1, 5):
            for at in range(many):
                rule = ((replaced((holds,) * many, at, fails), ("feed", 2)),)
                self.assert_hour(HILL, rule, 0, EMPTY, 0, (EMPTY, None, 0, 0, 0))

    def test_the_first_row_that_can_be_done(self):
        fed = ((0, 0, 1, 0, 0), NONE, NONE)
        stuck = ((("least", 2, 0),), ("let", 1))
        unheld = ((("least", 2, 1),), ("feed", 2))
        feed = ((), ("feed", 2))
        for rows in [(), (stuck,), (unheld,), (stuck, unheld), (stuck,) * 11, (((), ("feed", 0)), ((), ("left", 3)))]:
            self.assert_hour(HILL, rows, 0, EMPTY, 0, (EMPTY, None, 0, 0, 0))
            self.assert_hour(HILL, rows + (feed,), 0, EMPTY, 0, (fed, ("feed", 2), 7, 0, 0))
        # One row alone is done, though the next could be done too.
        self.assert_hour(HILL, (feed, ((), ("let", 1))), 0, EMPTY, 0, (fed, ("feed", 2), 7, 0, 0))
        let = ((0, 1, 0, 0, 0), NONE, NONE)
        self.assert_hour(HILL, (((), ("let", 1)), feed), 0, fed, 0, (let, ("let", 1), 0, 0, 0))

    def test_each_refusal_is_passed_over(self):
        full = ((0, 1, 3, 1, 0), (0, 0, 1, 0, 0), (0, 1, 0, 0, 0))
        for deed in canal_deeds(HILL):
            for stand in (EMPTY, full, waiting(1, 1), waiting(1, 1, (0, 1, 3, 1, 0))):
                rule = (((), deed), ((), ("feed", 2)), ((), ("let", 3)))
                asked = plain_hour(HILL, rule, 1, stand, 0)
                self.assert_hour(HILL, rule, 1, stand, 0, asked)

    def test_who_comes_to_an_end_is_gone(self):
        there = (NONE, (1, 0, 0, 1, 0), (0, 1, 0, 0, 1))
        right = (((), ("right", 3)),)
        left = (((), ("left", 0)),)
        self.assert_hour(HILL, right, 1, there, 0, ((NONE, (1, 0, 0, 0, 0), there[2]), ("right", 3), 0, 1, 0))
        self.assert_hour(HILL, left, 1, there, 0, ((NONE, there[1], (0, 0, 0, 0, 1)), ("left", 0), 0, 1, 0))
        # The gain is of who comes to its end, not of who leaves one.
        self.assert_hour(STEP, (((), ("right", 0)),), 1, ((0, 0, 0), (1, 0, 0), (0, 0, 0)), 0,
                         (((0, 0, 0), (0, 1, 0), (0, 0, 0)), ("right", 0), 0, 0, 0))

    def test_prices(self):
        for price in (0, 1, 99):
            canal = ((END, CHAMBER, ("pound", 3, 1, 2, price), CHAMBER, END), HILL[1])
            fed = ((0, 0, 1, 0, 0), NONE, NONE)
            self.assert_hour(canal, (((), ("feed", 2)),), 0, EMPTY, 0, (fed, ("feed", 2), price, 0, 0))

    def test_against_plain_keeping(self):
        source = random.Random(214)
        done = set()
        for canal, rule, crowd, stand in random_houses(215, 250):
            for number in range(8):
                for coming in COMINGS:
                    asked = plain_hour(canal, rule, crowd, stand, coming)
                    self.assert_hour(canal, rule, crowd, stand, coming, asked)
                    self.assertIs(is_house(canal, crowd, asked[0]), True)
                    done.add((asked[1] and asked[1][0], asked[3], asked[4]))
                stand = hour(canal, rule, crowd, stand, source.choice(COMINGS))[0]
        for word in (None, "let", "feed", "right", "left"):
            for gain in (0, 1) if word in ("right", "left") else (0,):
                for turned in (0, 1, 2):
                    self.assertIn((word, gain, turned), done)

    def test_asked_again(self):
        for canal, rule, crowd, stand in random_houses(216, 40):
            for coming in COMINGS:
                told = hour(canal, rule, crowd, stand, coming)
                self.assertEqual(told, hour(canal, rule, crowd, stand, coming))


class KeptTest(unittest.TestCase):
    def assert_kept(self, canal, rule, crowd, stand, comings):
        before = repr((canal, rule, crowd, stand, comings))
        told = kept(canal, rule, crowd, stand, comings)
        self.assertEqual(repr((canal, rule, crowd, stand, comings)), before)
        hours = []
        behind = stand
        for coming in comings:
            behind, *one = plain_hour(canal, rule, crowd, behind, coming)
            hours.append(tuple(one))
        self.assertEqual(kinds_of(told), kinds_of((hours, behind)))
        return told

    def test_no_comings(self):
        for canal, rule, crowd, stand in random_houses(221, 30):
            self.assertEqual(kinds_of(kept(canal, rule, crowd, stand, [])), kinds_of(([], stand)))

    def test_by_hand(self):
        full = ((0, 0, 3, 0, 0), NONE, NONE)
        hours, behind = self.assert_kept(HILL, OVER, 1, full, [1, 1, 1] + [0] * 9)
        deeds = [("right", 0), ("let", 1), ("right", 1), ("let", 2), ("right", 2), ("let", 3), ("right", 3)]
        deeds += [("feed", 2), ("let", 0), ("right", 0), ("let", 1), ("right", 1)]
        self.assertEqual([deed for deed, price, gain, turned in hours], deeds)
        self.assertEqual([price for deed, price, gain, turned in hours], [0] * 7 + [7] + [0] * 4)
        self.assertEqual([gain for deed, price, gain, turned in hours], [0] * 6 + [1] + [0] * 5)
        self.assertEqual([turned for deed, price, gain, turned in hours], [0, 0, 1] + [0] * 9)
        self.assertEqual(behind, ((0, 1, 1, 0, 0), (0, 0, 1, 0, 0), NONE))

    def test_few(self):
        source = random.Random(222)
        for canal, rule, crowd, stand in random_houses(223, 120):
            comings = [source.choice(COMINGS) for number in range(source.randint(1, 40))]
            self.assert_kept(canal, rule, crowd, stand, comings)

    def test_two_thousand(self):
        source = random.Random(224)
        for canal, rule, crowd, stand in random_houses(225, 8):
            comings = [source.choice(COMINGS) for number in range(2000)]
            told = self.assert_kept(canal, rule, crowd, stand, comings)
            self.assertEqual(len(told[0]), 2000)

    def test_hours_as_one_by_one(self):
        source = random.Random(226)
        for canal, rule, crowd, stand in random_houses(227, 60):
            comings = [source.choice(COMINGS) for number in range(30)]
            hours, last = kept(canal, rule, crowd, stand, comings)
            behind = stand
            for number, coming in enumerate(comings):
                self.assertEqual(kept(canal, rule, crowd, stand, comings[:number]), (hours[:number], behind))
                behind, *one = hour(canal, rule, crowd, behind, coming)
                self.assertEqual(tuple(one), hours[number])
            self.assertEqual(last, behind)

    def test_from_the_other_side(self):
        source = random.Random(228)
        for canal, rule, crowd, stand in random_houses(229, 100):
            comings = [source.choice(COMINGS) for number in range(30)]
            hours, last = kept(canal, rule, crowd, stand, comings)
            other, behind = kept(
                turned_canal(canal), turned_rule(canal, rule), crowd, turned_stand(stand), turned_comings(comings))
            self.assertEqual(behind, turned_stand(last))
            self.assertEqual([one[1:] for one in other], [one[1:] for one in hours])
            rows = tuple(((), deed) for deed, price, gain, turned in hours if deed is not None)
            deeds = [deed for asks, deed in turned_rule(canal, rows)]
            self.assertEqual([deed for deed, price, gain, turned in other if deed is not None], deeds)

    def test_nobody_is_lost(self):
        source = random.Random(230)
        gone = 0
        for canal, rule, crowd, stand in random_houses(231, 150):
            comings = [source.choice(COMINGS) for number in range(60)]
            hours, last = kept(canal, rule, crowd, stand, comings)
            came = sum((0, 1, 1, 2)[coming] for coming in comings)
            away = sum(turned for deed, price, gain, turned in hours)
            went = sum(gain for deed, price, gain, turned in hours)
            gone += went
            self.assertEqual(sum(stand[1] + stand[2]) + came - away - went, sum(last[1] + last[2]))
            self.assertIs(is_stand(canal, last), True)
        self.assertGreater(gone, 100)

    def test_water_adds_up(self):
        source = random.Random(232)
        moved = [0, 0, 0]
        for canal, rule, crowd, stand in random_houses(233, 100):
            comings = [source.choice(COMINGS) for number in range(40)]
            hours, last = kept(canal, rule, crowd, stand, comings)
            behind, paid, level = stand, 0, sum(stand[0])
            for number, coming in enumerate(comings):
                told, water = plain_keeping(canal, rule, crowd, behind, coming)
                behind = told[0]
                paid += hours[number][1]
                level += water[0] + water[1] - water[2]
                moved = [many + more for many, more in zip(moved, water)]
            self.assertEqual(sum(last[0]), level)
            feeds = [deed[1] for deed, price, gain, turned in hours if deed is not None and deed[0] == "feed"]
            self.assertEqual(paid, sum(canal[0][place][4] for place in feeds))
        self.assertGreater(min(moved), 20)

    def test_what_is_told_is_the_askers_own(self):
        told = kept(HILL, OVER, 1, EMPTY, [1, 0, 3])
        again = kept(HILL, OVER, 1, EMPTY, [1, 0, 3])
        self.assertIsNot(told[0], again[0])
        told[0].clear()
        self.assertEqual(again, kept(HILL, OVER, 1, EMPTY, [1, 0, 3]))


if __name__ == "__main__":
    unittest.main()
