"""Two rules held against one another: promise 29, and of promise 3 that a table or a shortest row is told."""

import inspect
import itertools
import random
import unittest

from summitwater.canals import turned_canal
from summitwater.errors import TooMany
from summitwater.held import held
from summitwater.houses import kept
from summitwater.pairs import shows_no_more
from summitwater.stands import turned_stand
from tests.keepers import is_plain_no_more, plain_hour, plain_pairs, plain_shortest, random_matches, turned_rule
from tests.samples import CHAMBER, END, HILL, kinds_of
from tests.test_ever import FALLS, FILL_LOWER, FILL_UPPER, NONES, falls
from tests.test_houses import EMPTY, OVER, waiting
from tests.test_pairs import FEED, FEED_LESS, TABLE

# Two springs: of the first a lockful costs 99, of the second 2.
TWO_SPRINGS = (
    (END, CHAMBER, ("pound", 2, 0, 1, 99), CHAMBER, ("pound", 1, 0, 1, 2), CHAMBER, END),
    ("up", "up", "down", "up", "down", "down"),
)
# Costs 198 at once, and no more.
AT_ONCE = (((), ("feed", 2)),)
# Costs 2 in each third hour, for ever.
BY_AND_BY = (((), ("let", 5)), ((), ("let", 4)), ((), ("feed", 4)))
# Three springs, of 99, of none and of 2; the chamber between the last two, once full, stays so.
THREE_SPRINGS = (
    (END, CHAMBER, ("pound", 3, 0, 1, 99), CHAMBER, ("pound", 1, 0, 1, 0), CHAMBER, ("pound", 1, 0, 1, 2), CHAMBER, END),
    ("up", "up", "up", "up", "down", "up", "down", "down"),
)
LAST_SPRING = (((), ("let", 7)), ((), ("let", 6)), ((), ("feed", 6)))


def at_once(level):
    """Feeds the first spring's pound to a level, then fills that chamber, then lets water go round that costs none."""
    first = (((("most", 5, 0), ("most", 2, level - 1)), ("feed", 2)), ((("most", 5, 0),), ("let", 4)))
    lets = tuple(((), ("let", gate)) for gate in range(4))
    return first + lets + (((), ("feed", 4)),)


def fill_to(level):
    """As FILL_UPPER, to another level."""
    return FILL_UPPER[:5] + (((("least", 2, level),), ("let", 2)),) + FILL_UPPER[6:]


def paid(canal, rule, crowd, stand, comings):
    """The sum of a rule's prices, by plain keeping."""
    price = 0
    for coming in comings:
        told = plain_hour(canal, rule, crowd, stand, coming)
        stand = told[0]
        price += told[2]
    return price


class HeldTest(unittest.TestCase):
    def assert_too_many(self, match, *limit):
        with self.assertRaises(TooMany) as taken:
            held(*match, *limit)
        self.assertIs(type(taken.exception), TooMany)

    def assert_told(self, match, told, found):
        canal, one, other, crowd, stand = match
        self.assertIs(type(told), tuple)
        self.assertEqual(len(told), 2)
        self.assertIs(type(told[1]), list)
        if told[0] == "never":
            self.assertIs(shows_no_more(*match, told[1]), True)
            self.assertTrue(is_plain_no_more(*match, told[1]))
            self.assertEqual({part[:2] for part in told[1]}, set(found))
            self.assertIsNone(plain_shortest(found, (stand, stand), 40))
        else:
            self.assertEqual(told[0], "more")
            self.assertTrue(all(type(coming) is int and 0 <= coming <= 3 for coming in told[1]))
            first = paid(canal, one, crowd, stand, told[1])
            self.assertGreater(first, paid(canal, other, crowd, stand, told[1]))
            self.assertEqual(plain_shortest(found, (stand, stand), 300), len(told[1]))

    def assert_held(self, match):
        """Hold what is told against a plain search, and ask with the limits just met and just passed."""
        before = repr(match)
        found = plain_pairs(*match, 2000)
        told = held(*match, 2000)
        self.assert_told(match, told, found)
        self.assertEqual(held(*match, len(found))[0], told[0])
        self.assert_told(match, held(*match, len(found)), found)
        if len(found) > 1:
            self.assert_too_many(match, len(found) - 1)
            self.assert_too_many(match, 1)
        self.assertEqual(repr(match), before)
        return told

    def test_by_hand(self):
        told = self.assert_held((HILL, FEED_LESS, FEED, 0, EMPTY))
        self.assertEqual(sorted(told[1]), sorted(TABLE))
        # The other feeds no third lockful.
        told = self.assert_held((HILL, FEED, FEED_LESS, 0, EMPTY))
        self.assertEqual((told[0], len(told[1])), ("more", 3))
        # Only who comes is paid for.
        greedy = (((("left", 4, 2),), ("feed", 2)),)
        told = self.assert_held((HILL, greedy, (), 2, EMPTY))
        self.assertEqual(told[0], "more")
        self.assertIn(told[1], [[first, second] for first in (2, 3) for second in (2, 3)])
        self.assertEqual(self.assert_held((HILL, greedy, (), 1, EMPTY))[0], "never")
        self.assertEqual(self.assert_held((HILL, (), greedy, 2, EMPTY))[0], "never")
        self.assertEqual(len(self.assert_held((HILL, greedy, (), 2, waiting(0, 2)))[1]), 1)

    def test_paid_more_at_some_hour_alone(self):
        # The one pays at once, the other an hour later: behind the first hour the one has paid more.
        later = (((("most", 3, 0),), ("let", 2)), ((), ("feed", 2)))
        stand = ((0, 0, 2, 0, 0),) + EMPTY[1:]
        told = self.assert_held((HILL, FEED, later, 0, stand))
        self.assertEqual(told, ("more", [told[1][0]]))
        # What the second chamber has taken is fed anew.
        told = self.assert_held((HILL, later, FEED, 0, EMPTY))
        self.assertEqual((told[0], len(told[1])), ("more", 5))

    def test_rules_that_are_alike(self):
        for canal, one, other, crowd, stand in random_matches(271, 60):
            told = self.assert_held((canal, one, one, crowd, stand))
            self.assertEqual(told[0], "never")
            self.assertEqual({part[0] == part[1] for part in told[1]}, {True})

    def test_a_row_less(self):
        answers = set()
        for rule in (OVER, FEED, FEED_LESS):
            for at in range(len(rule)):
                less = rule[:at] + rule[at + 1:]
                for crowd in (0, 1):
                    for one, other in ((rule, less), (less, rule)):
                        answers.add(self.assert_held((HILL, one, other, crowd, EMPTY))[0])
        self.assertEqual(answers, {"never", "more"})

    def test_against_a_plain_search(self):
        answers = {"never": 0, "more": 0}
        hours = set()
        for match in random_matches(272, 400):
            if plain_pairs(*match, 250) is None:
                continue
            told = self.assert_held(match)
            answers[told[0]] += 1
            if told[0] == "more":
                hours.add(len(told[1]))
        self.assertGreater(answers["never"], 200)
        self.assertGreater(answers["more"], 40)
        self.assertGreater(len(hours), 4)

    def test_against_every_list_of_comings(self):
        many = 0
        for canal, one, other, crowd, stand in random_matches(273, 200):
            told = held(canal, one, other, crowd, stand, 2000)
            if told[0] == "more" and len(told[1]) < 5:
                many += 1
                for hours in range(len(told[1])):
                    for comings in itertools.product(range(4), repeat=hours):
                        first = paid(canal, one, crowd, stand, comings)
                        self.assertLessEqual(first, paid(canal, other, crowd, stand, comings))
        self.assertGreater(many, 10)

    def test_never_is_so_at_any_comings(self):
        source = random.Random(274)
        for canal, one, other, crowd, stand in random_matches(275, 100):
            if held(canal, one, other, crowd, stand, 2000)[0] == "never":
                comings = [source.randint(0, 3) for number in range(200)]
                ones = [price for deed, price, gain, turned in kept(canal, one, crowd, stand, comings)[0]]
                others = [price for deed, price, gain, turned in kept(canal, other, crowd, stand, comings)[0]]
                for ahead, behind in zip(itertools.accumulate(ones), itertools.accumulate(others)):
                    self.assertLessEqual(ahead, behind)

    def test_from_the_other_side(self):
        for canal, one, other, crowd, stand in random_matches(276, 100):
            told = held(canal, one, other, crowd, stand, 2000)
            rules = (turned_rule(canal, one), turned_rule(canal, other))
            turned = held(turned_canal(canal), *rules, crowd, turned_stand(stand), 2000)
            self.assertEqual((turned[0], len(turned[1])), (told[0], len(told[1])))

    def test_the_limit_left_out(self):
        rules = (fill_to(9), fill_to(6))
        six_hundred = (FALLS,) + rules + (0, falls(0, 0, 0, 5, 0))
        self.assertEqual(len(held(*six_hundred)[1]), 17)
        self.assert_too_many(six_hundred, 599)
        one_more = (FALLS,) + rules + (0, falls(0, 0, 0, 5, 1))
        self.assert_too_many(one_more)
        self.assert_too_many(one_more, 600)
        self.assertEqual(len(held(*one_more, 601)[1]), 18)
        self.assertEqual(inspect.signature(held).parameters["limit"].default, 600)

    def test_six_hundred_pairs_of_no_price(self):
        # Each hour another pair is met for the first time, behind three hundred hours too.
        places = FALLS[0][:2] + (("pound", 9, 0, 4, 0),) + FALLS[0][3:]
        free = ((places, FALLS[1]), fill_to(9), fill_to(6), 0)
        told = held(*free, falls(0, 0, 0, 5, 0))
        self.assertEqual((told[0], len(told[1])), ("never", 600))
        self.assert_held(free + (falls(0, 0, 0, 5, 0),))
        self.assert_too_many(free + (falls(0, 0, 0, 5, 1),))
        self.assert_held(free + (falls(0, 0, 0, 5, 1),))

    def test_many_pairs(self):
        match = (FALLS, FILL_LOWER, FILL_LOWER + (((), ("feed", 2)),), 4, falls(0, 0, 0, 0, 0))
        self.assert_too_many(match)
        self.assert_held(match)
        # They are too many, whether the one has paid more by then or not.
        match = (FALLS, FEED, FILL_LOWER, 4, falls(0, 0, 0, 0, 0))
        self.assert_held(match)

    def test_three_hundred_hours(self):
        for crowd in (0, 1):
            at_last = (TWO_SPRINGS, BY_AND_BY, AT_ONCE, crowd, ((0, 0, 0, 0, 1, 0, 0), NONES, NONES))
            self.assertEqual(len(self.assert_held(at_last)[1]), 300)
            # Here each lockful is fed an hour later.
            later = (TWO_SPRINGS, BY_AND_BY, AT_ONCE, crowd, ((0, 0, 0, 0, 1, 1, 0), NONES, NONES))
            found = plain_pairs(*later, 2000)
            self.assertEqual(plain_shortest(found, (later[-1], later[-1]), 400), 301)
            self.assert_too_many(later)
            self.assert_too_many(later, 2000)

    def test_three_hundred_hours_of_many_pairs(self):
        # More than three hundred pairs are met, so that the search goes on behind three hundred hours.
        nobody = (0,) * 9
        stand = ((0, 0, 0, 0, 1, 0, 1, 0, 0), nobody, nobody)
        told = self.assert_held((THREE_SPRINGS, LAST_SPRING, at_once(2), 4, stand))
        self.assertEqual(len(told[1]), 300)
        stand = ((0, 0, 0, 0, 1, 0, 1, 1, 0), nobody, nobody)
        for level, hours in ((2, 301), (3, 448)):
            later = (THREE_SPRINGS, LAST_SPRING, at_once(level), 4, stand)
            found = plain_pairs(*later, 2000)
            self.assertGreater(len(found), 301)
            self.assertEqual(plain_shortest(found, (stand, stand), 500), hours)
            self.assert_too_many(later)
            self.assert_too_many(later, 2000)

    def test_never_dearer_by_a_ring_that_pays_alike(self):
        # Both pay for ever, the one always later.
        stand = ((0, 0, 0, 0, 1, 1, 0), NONES, NONES)
        told = self.assert_held((TWO_SPRINGS, BY_AND_BY, BY_AND_BY[::-1], 2, stand))
        self.assertEqual(told[0], "never")

    def test_what_is_told_is_the_askers_own(self):
        for match in [(HILL, FEED_LESS, FEED, 0, EMPTY), (HILL, FEED, FEED_LESS, 0, EMPTY)]:
            told = held(*match)
            again = held(*match)
            self.assertIsNot(told[1], again[1])
            told[1].clear()
            self.assertEqual(kinds_of(held(*match)), kinds_of(again))
            self.assertGreater(len(again[1]), 0)


if __name__ == "__main__":
    unittest.main()
