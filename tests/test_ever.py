"""Houses kept for ever: promises 27 and 28, and of promise 3 that no keeper undercuts trade."""

import inspect
import random
import unittest

from summitwater.canals import turned_canal
from summitwater.errors import TooMany
from summitwater.ever import for_ever
from summitwater.houses import kept
from summitwater.opened import open_row
from summitwater.stands import turned_stand
from summitwater.trade import trade
from tests.keepers import plain_ever, random_houses, turned_comings, turned_rule
from tests.samples import CHAMBER, END, HILL, kinds_of
from tests.test_houses import EMPTY, NONE, OVER, waiting
from tests.test_opened import opened
from tests.test_trade import hill

NONES = (0, 0, 0, 0, 0, 0, 0)
# Down from a spring to both ends.
FALLS = (
    (END, CHAMBER, ("pound", 9, 0, 4, 5), CHAMBER, ("pound", 9, 0, 4, None), CHAMBER, END),
    ("up", "up", "down", "down", "down", "down"),
)
# The upper pound is filled, then emptied while the chamber behind it is full; the lower one empties at once.
FILL_UPPER = (
    ((), ("let", 5)),
    ((), ("let", 4)),
    ((("least", 3, 1), ("most", 2, 0)), ("let", 3)),
    ((("least", 3, 1),), ("let", 0)),
    ((("least", 3, 1),), ("let", 1)),
    ((("least", 2, 9),), ("let", 2)),
    ((("most", 3, 0),), ("feed", 2)),
)
# The lower pound is filled, then emptied while the first chamber is full.
FILL_LOWER = (
    ((), ("let", 5)),
    ((("least", 1, 1),), ("let", 4)),
    ((("least", 1, 1), ("most", 4, 0)), ("let", 0)),
    ((("most", 1, 0), ("least", 4, 9)), ("let", 1)),
    ((("most", 1, 0),), ("let", 3)),
    ((("most", 1, 0),), ("let", 2)),
    ((("most", 1, 0),), ("feed", 2)),
)
# A right barge goes up by a lockful, and a left one goes down by the same.
BY_TURNS = (
    ((), ("left", 0)),
    ((), ("right", 3)),
    ((), ("right", 2)),
    ((), ("right", 1)),
    ((), ("left", 1)),
    ((("left", 1, 1),), ("let", 0)),
    ((("least", 1, 1),), ("left", 2)),
    ((("least", 1, 1),), ("left", 3)),
    ((("right", 1, 1),), ("let", 1)),
    ((), ("right", 0)),
    ((), ("let", 3)),
    ((("right", 1, 1), ("most", 1, 0)), ("feed", 2)),
)


def valley(price):
    """The second chamber lies lowest: once full, it takes no water any more."""
    return ((END, CHAMBER, ("pound", 1, 0, 1, price), CHAMBER, END), ("up", "up", "down", "up"))


def falls(*levels):
    return ((0,) + levels + (0,), NONES, NONES)


def random_comings(source, many=None):
    return tuple(source.randint(0, 3) for number in range(many or source.randint(1, 20)))


class EverTest(unittest.TestCase):
    def assert_too_many(self, house, comings, *limit):
        with self.assertRaises(TooMany) as taken:
            for_ever(*house, comings, *limit)
        self.assertIs(type(taken.exception), TooMany)

    def assert_ever(self, house, comings):
        """Hold what is told against plain walking, and ask with the limits just met and just passed."""
        before = repr((house, comings))
        asked = plain_ever(*house, comings, 2000)
        together = asked[0] + asked[1]
        for limit in {together, together + 1, 2000}:
            self.assertEqual(kinds_of(for_ever(*house, comings, limit)), kinds_of(asked))
        if together > 1:
            self.assert_too_many(house, comings, together - 1)
            self.assert_too_many(house, comings, 1)
        self.assertEqual(repr((house, comings)), before)
        return asked

    def test_by_hand(self):
        for many in range(1, 21):
            # Nothing is ever done, but all places of the round pass.
            self.assertEqual(self.assert_ever((HILL, (), 0, EMPTY), (0,) * many), (0, many, 0, 0, 0))
            self.assertEqual(self.assert_ever((HILL, (), 0, EMPTY), (3,) * many), (0, many, 0, 0, 2 * many))
        # Who waits is there behind some hours, and all others are turned away.
        self.assertEqual(self.assert_ever((HILL, (), 4, EMPTY), (1,)), (4, 1, 0, 0, 1))
        self.assertEqual(self.assert_ever((HILL, (), 4, EMPTY), (3,)), (4, 1, 0, 0, 2))
        self.assertEqual(self.assert_ever((HILL, (), 4, waiting(1, 4)), (0, 1)), (6, 2, 0, 0, 1))
        # The spring fills the pound once.
        feed = (((), ("feed", 2)),)
        self.assertEqual(self.assert_ever((HILL, feed, 0, EMPTY), (0,)), (3, 1, 0, 0, 0))
        drain = (((), ("let", 3)), ((), ("let", 2))) + feed
        self.assertEqual(self.assert_ever((HILL, drain, 0, EMPTY), (0,)), (0, 3, 7, 0, 0))
        self.assertEqual(self.assert_ever((HILL, drain, 0, EMPTY), (0, 1)), (0, 6, 14, 0, 3))

    def test_the_same_place_of_the_round(self):
        # The stand is the same behind each hour, and the coming too, yet the place is another one.
        self.assertEqual(self.assert_ever((HILL, (), 0, EMPTY), (1, 1, 1)), (0, 3, 0, 0, 3))
        self.assertEqual(self.assert_ever((HILL, (), 1, EMPTY), (1, 0, 1, 0)), (1, 4, 0, 0, 2))

    def test_trade_that_goes_on(self):
        lead, ring, price, gain, turned = self.assert_ever((HILL, OVER, 2, EMPTY), (1,))
        self.assertGreater(gain, 0)
        self.assertGreater(turned, 0)
        self.assertEqual(price, 7 * 2 * gain)

    def test_against_plain_walking(self):
        source = random.Random(241)
        leads = set()
        rings = set()
        for house in random_houses(242, 250):
            lead, ring, price, gain, turned = self.assert_ever(house, random_comings(source))
            leads.add(lead)
            rings.add(ring)
        self.assertGreater(len(leads), 15)
        self.assertGreater(len(rings), 20)

    def test_small_canals(self):
        source = random.Random(243)
        gained = 0
        for house in random_houses(244, 250, places=6):
            gained += self.assert_ever(house, random_comings(source))[3] > 0
        self.assertGreater(gained, 20)

    def test_rounds_of_every_length(self):
        source = random.Random(245)
        for many in range(1, 21):
            for house in random_houses(246 + many, 10, places=7):
                asked = self.assert_ever(house, random_comings(source, many))
                self.assertEqual(asked[1] // many * many, asked[1])

    def test_long_rings(self):
        house = (FALLS, FILL_LOWER, 0, falls(0, 0, 0, 0, 0))
        for many, ring in [(1, 48), (5, 240), (7, 336), (13, 624), (17, 816), (19, 912), (20, 240)]:
            asked = self.assert_ever(house, (3,) * many)
            self.assertEqual(asked, (0, ring, ring // 48 * 50, 0, 2 * ring))
        self.assertEqual(self.assert_ever((FALLS, FILL_UPPER, 0, falls(0, 0, 0, 9, 0)), (1,) * 20)[:2], (28, 580))

    def test_the_limit_left_out(self):
        six_hundred = (FALLS, FILL_UPPER, 0, falls(0, 4, 0, 7, 0))
        self.assertEqual(for_ever(*six_hundred, (1,) * 20), (20, 580, 900, 0, 580))
        self.assert_too_many(six_hundred, (1,) * 20, 599)
        one_more = (FALLS, FILL_UPPER, 0, falls(0, 3, 0, 7, 0))
        self.assert_too_many(one_more, (1,) * 20)
        self.assert_too_many(one_more, (1,) * 20, 600)
        self.assertEqual(for_ever(*one_more, (1,) * 20, 601), (21, 580, 900, 0, 580))
        self.assertEqual(inspect.signature(for_ever).parameters["limit"].default, 600)

    def test_going_on(self):
        source = random.Random(247)
        for canal, rule, crowd, stand in random_houses(248, 60, places=7) + [(HILL, OVER, 2, EMPTY)]:
            comings = random_comings(source)
            lead, *asked = for_ever(canal, rule, crowd, stand, comings, 2000)
            hours = list(comings) * (lead + 60)
            for many in {0, lead // 2, lead - 1, lead, lead + 1, lead + 7, lead + asked[0], lead + 40} - {-1}:
                behind = kept(canal, rule, crowd, stand, hours[:many])[1]
                place = many % len(comings)
                told = for_ever(canal, rule, crowd, behind, comings[place:] + comings[:place], 2000)
                self.assertEqual(told, (max(0, lead - many),) + tuple(asked))

    def test_sums_over_the_ring(self):
        source = random.Random(249)
        for canal, rule, crowd, stand in random_houses(250, 60):
            comings = random_comings(source)
            lead, ring, *asked = for_ever(canal, rule, crowd, stand, comings, 2000)
            hours, last = kept(canal, rule, crowd, stand, (list(comings) * (lead + 2 * ring))[:lead + 2 * ring])
            for first in (lead, lead + 1, lead + ring):
                self.assertEqual([sum(part) for part in zip(*[one[1:] for one in hours[first:first + ring]])], asked)
            self.assertEqual(kept(canal, rule, crowd, stand, (list(comings) * (lead + 1))[:lead])[1], last)

    def test_from_the_other_side(self):
        source = random.Random(251)
        for canal, rule, crowd, stand in random_houses(252, 60):
            comings = random_comings(source)
            told = for_ever(canal, rule, crowd, stand, comings, 2000)
            turned = (turned_canal(canal), turned_rule(canal, rule), crowd, turned_stand(stand))
            self.assertEqual(for_ever(*turned, turned_comings(comings), 2000), told)

    def test_refused_changes_nothing(self):
        house = (HILL, OVER, 2, EMPTY)
        told = for_ever(*house, (1, 2))
        self.assert_too_many(house, (1, 2), 3)
        self.assertEqual(for_ever(*house, (1, 2)), told)


class TradeTest(unittest.TestCase):
    """No keeper undercuts trade."""

    def assert_no_less(self, canal, rule, crowd, stand, comings, told):
        """Tell the keeper's gain, and whether it pays just what trade does."""
        lead, ring, price, gain, turned = for_ever(canal, rule, crowd, stand, comings, 2000)
        if told[0] == "least":
            self.assertEqual(gain, 0)
            return (0, False)
        start = open_row(canal, opened(stand), told[1])[0]
        behind, paid, gained = open_row(canal, start, told[2])
        self.assertGreaterEqual(price * gained, gain * paid)
        return (gain, price * gained == gain * paid)

    def test_any_keepers(self):
        source = random.Random(253)
        many = {"ring": 0, "least": 0}
        gains = 0
        for canal, rule, crowd, stand in random_houses(254, 300, places=6):
            try:
                told = trade(canal, opened(stand), 400)
            except TooMany:
                continue
            many[told[0]] += 1
            for number in range(4):
                comings = random_comings(source)
                gain, even = self.assert_no_less(canal, rule, crowd, stand, comings, told)
                gains += gain > 0
        self.assertGreater(min(many.values()), 30)
        self.assertGreater(gains, 30)

    def test_a_dry_hill(self):
        for levels in [NONE, (0, 0, 3, 0, 0), (0, 1, 1, 1, 0)]:
            canal = hill(None, 3, 1, 2)
            told = trade(canal, (levels, NONE, NONE))
            self.assertEqual(told[0], "least")
            for crowd in (1, 4):
                for comings in [(1,), (2,), (3,), (1, 0, 2)]:
                    self.assert_no_less(canal, OVER, crowd, waiting(1, 1, levels), comings, told)

    def test_keepers_who_pay_more(self):
        # One way alone each barge takes two lockfuls; by turns, a right and a left one, it would take one.
        for price in (1, 5, 99):
            canal = hill(price)
            told = trade(canal, EMPTY)
            gain, even = self.assert_no_less(canal, OVER, 1, EMPTY, (1,), told)
            self.assertGreater(gain, 0)
            self.assertFalse(even)

    def test_keepers_who_pay_no_more(self):
        for price in (0, 1, 5, 99):
            canal = valley(price)
            told = trade(canal, EMPTY)
            self.assertEqual(told[0], "ring")
            for comings in [(3,), (1, 2), (2, 0, 1, 0, 0)]:
                gain, even = self.assert_no_less(canal, BY_TURNS, 1, EMPTY, comings, told)
                self.assertGreater(gain, 0)
                self.assertTrue(even)


if __name__ == "__main__":
    unittest.main()
