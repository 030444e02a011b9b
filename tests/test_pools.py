"""Pools through rounds of days: promises 21 and 22, and of promise 3 that a pool lasts or is dried, never both."""

import copy
import itertools
import random
import unittest

from summitwater.pools import lasting, least_brim, level_behind
from summitwater.stretches import shows_dry
from tests.samples import kinds_of

MOST = 10 ** 15
FIGURES = 10 ** 15 - 1
ALWAYS = 10 ** 30


def days_one_by_one(brim, days, level, many):
    for day in range(many):
        level = min(brim, level + days[day % len(days)])
        if level < 0:
            return ("dry", day)
    return ("level", level)


def behind(ahead, further):
    """Two runs of days made one: each takes a least level, brings so much, and leaves a most level."""
    least, brings, most = ahead
    other, more, top = further
    if most < other:
        return None
    return (max(least, other - brings), brings + more, min(top, most + more))


def run_of_days(brim, days, many):
    """So many days as one run, by halves; None where they are dry from every level."""
    run = (0, 0, brim)
    for day in days[:many % len(days)][::-1]:
        run = run and behind((max(0, -day), day, brim), run)
    rounds = (0, 0, brim)
    for day in days[::-1]:
        rounds = rounds and behind((max(0, -day), day, brim), rounds)
    many //= len(days)
    while many:
        if many % 2:
            run = run and rounds and behind(rounds, run)
        rounds = rounds and behind(rounds, rounds)
        many //= 2
    return run


def by_halves(brim, days, level, many):
    """As level_behind, by halves, of a level of at most the brim."""
    run = run_of_days(brim, days, many)
    if run is not None and level >= run[0]:
        return ("level", min(run[2], level + run[1]) if many else level)
    wet, dry = 0, many
    while dry - wet > 1:
        middle = (wet + dry) // 2
        run = run_of_days(brim, days, middle)
        if run is not None and level >= run[0]:
            wet = middle
        else:
            dry = middle
    return ("dry", dry - 1)


def random_round(source, most, length):
    shape = source.randrange(4)
    days = [source.randint(-most, most) for number in range(length)]
    if shape == 0:
        # An even round.
        days[-1] -= sum(days)
    elif shape == 1:
        days[-1] -= sum(days) - source.choice([1, -1])
    return tuple(max(-FIGURES, min(FIGURES, day)) for day in days)


def random_pools(seed, many, lengths, most, brims):
    source = random.Random(seed)
    for number in range(many):
        days = random_round(source, source.randint(0, most), source.choice(lengths))
        brim = source.choice([0, brims, source.randint(0, brims)])
        yield source, brim, days


class LevelTest(unittest.TestCase):
    def assert_level(self, brim, days, level, many, asked):
        self.assertEqual(kinds_of(level_behind(brim, days, level, many)), kinds_of(asked), (brim, days, level, many))

    def test_by_hand(self):
        self.assert_level(10, (3, -2), 4, 0, ("level", 4))
        self.assert_level(10, (3, -2), 4, 1, ("level", 7))
        self.assert_level(10, (3, -2), 4, 2, ("level", 5))
        self.assert_level(10, (3, -2), 4, 99, ("level", 10))
        self.assert_level(10, (3, -2), 4, 100, ("level", 8))
        # Dry on the first day, on the last one, a day later.
        self.assert_level(10, (-5,), 4, 1, ("dry", 0))
        self.assert_level(10, (-5,), 4, 0, ("level", 4))
        self.assert_level(10, (-1, -1, -3), 4, 3, ("dry", 2))
        self.assert_level(10, (-1, -1, -3), 4, 2, ("level", 2))
        self.assert_level(10, (-1, -1, -2), 4, 3, ("level", 0))
        self.assert_level(10, (-1, -1, -2), 4, 4, ("dry", 3))
        # The brim cuts the first round, so that the second one is dry.
        self.assert_level(3, (-3, 10, -3), 3, 3, ("level", 0))
        self.assert_level(3, (-3, 10, -3), 3, 4, ("dry", 3))
        self.assert_level(3, (-3, 10, -3), 3, ALWAYS, ("dry", 3))

    def test_without_a_brim(self):
        self.assert_level(0, (0,), 0, ALWAYS, ("level", 0))
        self.assert_level(0, (5, 0, 7), 0, ALWAYS, ("level", 0))
        self.assert_level(0, (5, 0, -1), 0, ALWAYS, ("dry", 2))
        self.assert_level(0, (5, 0, -1), 0, 2, ("level", 0))
        self.assert_level(0, (-1,), 0, 1, ("dry", 0))

    def test_small_ones(self):
        for length in (1, 2, 3):
            for days in itertools.product(range(-3, 4), repeat=length):
                for brim in (0, 1, 2, 5):
                    for level in {0, 1, brim // 2, brim}:
                        for many in (0, 1, 2, 3, 4, 6, 7, 20):
                            if level <= brim:
                                self.assert_level(brim, days, level, many, days_one_by_one(brim, days, level, many))

    def test_at_random(self):
        seen = set()
        for source, brim, days in random_pools(121, 3000, [1, 2, 3, 5, 9, 60], 30, 200):
            level = source.randint(0, brim)
            many = source.choice([0, 1, len(days), 2 * len(days), source.randint(0, 400)])
            asked = days_one_by_one(brim, days, level, many)
            self.assert_level(brim, days, level, many, asked)
            seen.add((asked[0], asked[0] == "dry" and asked[1] >= 2 * len(days)))
            if asked[0] == "dry":
                self.assert_level(brim, days, level, asked[1] + 1, asked)
                self.assert_level(brim, days, level, asked[1], days_one_by_one(brim, days, level, asked[1]))
        self.assertEqual(seen, {("level", False), ("dry", False), ("dry", True)})

    def test_many_days_by_hand(self):
        self.assert_level(MOST, (-1,), MOST, ALWAYS, ("dry", MOST))
        self.assert_level(MOST, (-1,), MOST, MOST, ("level", 0))
        self.assert_level(MOST, (-1,), MOST, MOST + 1, ("dry", MOST))
        self.assert_level(MOST, (-1,), MOST, MOST - 1, ("level", 1))
        self.assert_level(MOST, (1,), 0, MOST - 1, ("level", MOST - 1))
        self.assert_level(MOST, (1,), 0, MOST, ("level", MOST))
        self.assert_level(MOST, (1,), 0, ALWAYS, ("level", MOST))
        self.assert_level(MOST, (0,), 7, ALWAYS, ("level", 7))
        self.assert_level(MOST, (FIGURES, -FIGURES), 1, ALWAYS, ("level", 1))
        self.assert_level(MOST, (-FIGURES, FIGURES), FIGURES, ALWAYS, ("level", FIGURES))
        self.assert_level(MOST, (-FIGURES, FIGURES), FIGURES - 1, ALWAYS, ("dry", 0))
        self.assert_level(MOST, (FIGURES,) * 60, 0, ALWAYS, ("level", MOST))
        self.assert_level(MOST, (-FIGURES,) * 60, MOST, ALWAYS, ("dry", 1))
        # One less by each round of sixty days.
        days = (1,) * 29 + (-1,) * 31
        self.assert_level(MOST, days, 10 ** 12, ALWAYS, ("dry", 60 * (10 ** 12 // 2) + 58))
        self.assertEqual(by_halves(MOST, days, 10 ** 12, ALWAYS), ("dry", 60 * (10 ** 12 // 2) + 58))

    def test_many_days_at_random(self):
        seen = set()
        for most, brims in ((3, 10 ** 6), (10 ** 6, MOST), (FIGURES, MOST), (10, MOST)):
            for source, brim, days in random_pools(most + 5, 250, [1, 2, 3, 7, 30, 60], most, brims):
                level = source.choice([0, brim, source.randint(0, brim)])
                many = source.choice([ALWAYS, source.randint(0, ALWAYS), source.randint(0, 10 ** 8), brim])
                asked = by_halves(brim, days, level, many)
                self.assert_level(brim, days, level, many, asked)
                seen.add((asked[0], asked[0] == "dry" and asked[1] > 10 ** 6))
                if asked[0] == "dry":
                    self.assert_level(brim, days, level, asked[1] + 1, asked)
                    self.assert_level(brim, days, level, asked[1], by_halves(brim, days, level, asked[1]))
        self.assertEqual(seen, {("level", False), ("dry", False), ("dry", True)})

    def test_halves_and_days_are_alike(self):
        for source, brim, days in random_pools(122, 800, [1, 2, 3, 5], 9, 40):
            level = source.randint(0, brim)
            many = source.randint(0, 60)
            self.assertEqual(by_halves(brim, days, level, many), days_one_by_one(brim, days, level, many))

    def test_what_is_handed_in_stays(self):
        days = (4, -9, 3)
        before = copy.deepcopy(days)
        for asked in (level_behind(9, days, 9, 50), lasting(9, days), least_brim(days)):
            self.assertEqual(kinds_of(days), kinds_of(before))
            self.assertIsNot(asked, days)


class LastingTest(unittest.TestCase):
    def assert_lasting(self, brim, days):
        """Hold what is told against its promise; tell its word."""
        told = lasting(brim, days)
        self.assertIs(type(told), tuple)
        if told[0] == "lasts":
            self.assertEqual(len(told), 2)
            self.assertIs(type(told[1]), int)
            self.assertTrue(0 <= told[1] <= brim)
            self.assertEqual(by_halves(brim, days, told[1], ALWAYS)[0], "level")
            self.assertEqual(by_halves(brim, days, brim, ALWAYS)[0], "level")
            if told[1] > 0:
                self.assertEqual(by_halves(brim, days, told[1] - 1, ALWAYS)[0], "dry")
        else:
            self.assertEqual(kinds_of(told[0]), kinds_of("dries"))
            word, first, many = told
            self.assertTrue(type(first) is int and 0 <= first < len(days))
            self.assertTrue(type(many) is int and many >= 1)
            total = many // len(days) * sum(days)
            total += sum(days[(first + number) % len(days)] for number in range(many % len(days)))
            self.assertLess(total, -brim)
            self.assertIs(shows_dry(brim, days, told), True)
            self.assertEqual(by_halves(brim, days, brim, ALWAYS)[0], "dry")
        return told[0]

    def test_by_hand(self):
        self.assertEqual(kinds_of(lasting(10, (3, -2))), kinds_of(("lasts", 0)))
        self.assertEqual(kinds_of(lasting(10, (-2, 3))), kinds_of(("lasts", 2)))
        self.assertEqual(kinds_of(lasting(2, (-2, 3))), kinds_of(("lasts", 2)))
        self.assertEqual(kinds_of(lasting(1, (-2, 3))), kinds_of(("dries", 0, 1)))
        self.assertEqual(kinds_of(lasting(0, (0,))), kinds_of(("lasts", 0)))
        self.assertEqual(kinds_of(lasting(0, (9, 0, 9))), kinds_of(("lasts", 0)))
        self.assertEqual(lasting(0, (9, -1, 9))[0], "dries")
        # Around the round's end: three are taken, though from day 0 on one is.
        self.assertEqual(kinds_of(lasting(3, (-1, 5, -2))), kinds_of(("lasts", 1)))
        self.assertEqual(kinds_of(lasting(2, (-1, 5, -2))), kinds_of(("dries", 2, 2)))
        # It takes more than it brings: no brim lasts.
        for brim in (0, 1, 7, MOST):
            self.assertEqual(self.assert_lasting(brim, (-1,)), "dries")
            self.assertEqual(self.assert_lasting(brim, (5, -6)), "dries")
            self.assertEqual(self.assert_lasting(brim, (FIGURES,) * 29 + (-FIGURES,) * 30), "dries")

    def test_the_greatest_numbers(self):
        self.assertEqual(lasting(MOST, (FIGURES, -FIGURES)), ("lasts", 0))
        self.assertEqual(lasting(MOST, (-FIGURES, FIGURES)), ("lasts", FIGURES))
        self.assertEqual(lasting(FIGURES, (-FIGURES, FIGURES)), ("lasts", FIGURES))
        self.assertEqual(self.assert_lasting(FIGURES - 1, (-FIGURES, FIGURES)), "dries")
        self.assertEqual(self.assert_lasting(MOST, (-FIGURES, -1, FIGURES, 1)), "lasts")
        self.assertEqual(self.assert_lasting(MOST, (-FIGURES, -2, FIGURES, 2)), "dries")
        self.assertEqual(self.assert_lasting(MOST, (FIGURES,) * 30 + (-FIGURES,) * 30), "dries")

    def test_small_ones(self):
        seen = set()
        for length in (1, 2, 3, 4):
            for days in itertools.product(range(-2, 3), repeat=length):
                for brim in range(5):
                    seen.add((self.assert_lasting(brim, days), sum(days)))
        self.assertLess({("lasts", 0), ("dries", 0), ("lasts", 1), ("dries", 1), ("dries", -1)}, seen)

    def test_at_random(self):
        for most, brims in ((3, 40), (10 ** 6, 10 ** 8), (FIGURES, MOST), (10, MOST)):
            for source, brim, days in random_pools(most + 6, 200, [1, 2, 3, 7, 30, 60], most, brims):
                self.assert_lasting(brim, days)

    def test_just_enough_and_one_less(self):
        asked = 0
        for most in (3, 9, 10 ** 6, FIGURES):
            for source, brim, days in random_pools(most + 7, 150, [1, 2, 3, 7, 60], most, 5):
                told = least_brim(days)
                if told is None:
                    self.assertLess(sum(days), 0)
                    for brim in (0, 1, MOST, 10 ** 20):
                        self.assertEqual(self.assert_lasting(brim, days), "dries")
                else:
                    self.assertIs(type(told), int)
                    self.assertGreaterEqual(sum(days), 0)
                    self.assertGreaterEqual(told, 0)
                    self.assertEqual(self.assert_lasting(told, days), "lasts")
                    if told > 0:
                        self.assertEqual(self.assert_lasting(told - 1, days), "dries")
                        asked += 1
        self.assertGreater(asked, 200)

    def test_the_least_brim_by_hand(self):
        self.assertEqual(kinds_of(least_brim((0,))), kinds_of(0))
        self.assertEqual(kinds_of(least_brim((5, 0, 2))), kinds_of(0))
        self.assertEqual(kinds_of(least_brim((-1, 5, -2))), kinds_of(3))
        self.assertEqual(kinds_of(least_brim((3, -2))), kinds_of(2))
        self.assertEqual(kinds_of(least_brim((3, -3))), kinds_of(3))
        self.assertIsNone(least_brim((3, -4)))
        self.assertIsNone(least_brim((-1,)))
        # A greater one than pools have.
        self.assertEqual(least_brim((FIGURES,) * 30 + (-FIGURES,) * 30), 30 * FIGURES)
        self.assertIsNone(least_brim((FIGURES,) * 29 + (-FIGURES,) * 30))


if __name__ == "__main__":
    unittest.main()
