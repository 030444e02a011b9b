"""What shows that a pool dries: promise 23."""

import random
import unittest

from summitwater.pools import lasting
from summitwater.stretches import shows_dry
from tests.samples import THINGS, altered
from tests.test_pools import FIGURES, MOST, random_pools


def is_plainly_dry(brim, days, thing):
    if type(thing) is not tuple or len(thing) != 3 or type(thing[0]) is not str or thing[0] != "dries":
        return False
    first, many = thing[1:]
    if type(first) is not int or type(many) is not int or not 0 <= first < len(days) or many < 1:
        return False
    turned = days[first:] + days[:first]
    return sum(turned) * (many // len(days)) + sum(turned[:many % len(days)]) < -brim


class ShowsDryTest(unittest.TestCase):
    def assert_shown(self, brim, days, thing, asked):
        before = repr((days, thing))
        self.assertIs(shows_dry(brim, days, thing), asked, (brim, days, thing))
        self.assertEqual(repr((days, thing)), before)

    def test_by_hand(self):
        days = (2, -3, -4)
        for first, many, total in [(0, 1, 2), (1, 1, -3), (2, 1, -4), (1, 2, -7), (2, 2, -2), (0, 3, -5), (1, 3, -5),
                                   (1, 5, -12), (1, 8, -17), (2, 4, -9), (0, 30, -50)]:
            for brim in range(60):
                self.assert_shown(brim, days, ("dries", first, many), total < -brim)

    def test_just_met_and_just_missed(self):
        self.assert_shown(MOST, (-1,), ("dries", 0, MOST + 1), True)
        self.assert_shown(MOST, (-1,), ("dries", 0, MOST), False)
        self.assert_shown(0, (-1,), ("dries", 0, 1), True)
        self.assert_shown(0, (0,), ("dries", 0, 1), False)
        self.assert_shown(0, (1, -1), ("dries", 1, 1), True)
        self.assert_shown(1, (1, -1), ("dries", 1, 1), False)
        self.assert_shown(FIGURES, (-FIGURES,), ("dries", 0, 1), False)
        self.assert_shown(FIGURES - 1, (-FIGURES,), ("dries", 0, 1), True)
        for brim in (0, 5, MOST):
            for many in (brim, brim + 1, brim + 2):
                self.assert_shown(brim, (-1,) * 60, ("dries", 59, many), many > brim)

    def test_of_forty_figures(self):
        for many in (10 ** 39, 10 ** 40 - 1):
            self.assert_shown(MOST, (-1,), ("dries", 0, many), True)
            self.assert_shown(MOST, (5, -6), ("dries", 1, many), True)
            self.assert_shown(MOST, (FIGURES,) * 59 + (-FIGURES,), ("dries", 59, many), False)
            self.assert_shown(MOST, (-FIGURES,) * 31 + (FIGURES,) * 29, ("dries", 59, many), True)
            self.assert_shown(0, (1, -1), ("dries", 0, many), is_plainly_dry(0, (1, -1), ("dries", 0, many)))
        # An even round: what is over decides.
        self.assert_shown(0, (1, -1), ("dries", 1, 10 ** 39 + 1), True)
        self.assert_shown(0, (1, -1), ("dries", 1, 10 ** 39), False)
        self.assert_shown(0, (1, -1), ("dries", 0, 10 ** 39 + 1), False)

    def test_out_of_bounds(self):
        days = (-5, -5, -5)
        for first in (-4, -3, -1, 3, 4, 10 ** 59, -(10 ** 59)):
            self.assert_shown(4, days, ("dries", first, 9), False)
        for many in (0, -1, -2, -9, -(10 ** 59)):
            self.assert_shown(4, days, ("dries", 0, many), False)
            # Days that bring much, so many below 0, would come to less than 0.
            self.assert_shown(4, (9, 9), ("dries", 0, many), False)
        for first in range(3):
            self.assert_shown(4, days, ("dries", first, 1), True)

    def test_another_form(self):
        days = (-5, -5, -5)
        for thing in [
            ["dries", 1, 1], ("dries", 1), ("dries", 1, 1, 1), ("lasts", 1, 1), ("dry", 1, 1), ("Dries", 1, 1),
            (None, 1, 1), (1, 1, "dries"), ("dries", True, 1), ("dries", 1, True), ("dries", False, 1), ("", 1, 1),
            ("dries", None, 1), ("dries", 1, None), ("dries", "1", 1), ("dries", 1, "1"), ("dries", (1,), 1), "dries",
            ("dries", 1, [1]), ("lasts", 0), (["dries"], 1, 1), (("dries", 1, 1),), [("dries", 1, 1)], ("dries", [], ()),
        ]:
            self.assert_shown(4, days, thing, False)
        self.assert_shown(4, days, ("dries", 1, 1), True)

    def test_other_things(self):
        for thing in THINGS + [THINGS, tuple(THINGS)]:
            self.assert_shown(0, (-9, 1), thing, False)
            for first, many in ((thing, 1), (0, thing)):
                asked = is_plainly_dry(0, (-9, 1), ("dries", first, many))
                self.assert_shown(0, (-9, 1), ("dries", first, many), asked)
            self.assert_shown(0, (-9, 1), (thing, 0, 1), False)

    def test_what_is_told(self):
        told = 0
        for most, brims in ((3, 40), (10 ** 6, 10 ** 8), (FIGURES, MOST), (10, MOST)):
            for source, brim, days in random_pools(most + 8, 150, [1, 2, 3, 7, 30, 60], most, brims):
                thing = lasting(brim, days)
                self.assert_shown(brim, days, thing, thing[0] == "dries")
                told += thing[0] == "dries"
        self.assertGreater(told, 200)

    def test_any_stretch(self):
        answers = {True: 0, False: 0}
        for source, brim, days in random_pools(131, 1500, [1, 2, 3, 7, 30, 60], 9, 60):
            for number in range(6):
                many = source.choice([source.randint(1, 9), source.randint(1, 300), source.randint(1, 10 ** 40)])
                thing = ("dries", source.randrange(len(days)), many)
                asked = is_plainly_dry(brim, days, thing)
                self.assert_shown(brim, days, thing, asked)
                answers[asked] += 1
        self.assertGreater(min(answers.values()), 1000)

    def test_altered(self):
        source = random.Random(132)
        for chance, brim, days in random_pools(133, 1500, [1, 2, 3, 7], 9, 20):
            thing = altered(source, lasting(brim, days))
            self.assert_shown(brim, days, thing, is_plainly_dry(brim, days, thing))


if __name__ == "__main__":
    unittest.main()
