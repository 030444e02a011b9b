"""Trade for ever: promise 19, and of promise 3 that no ring undercuts the one that is told."""

import fractions
import inspect
import unittest

from summitwater.canals import turned_canal
from summitwater.errors import TooMany
from summitwater.opened import open_done, open_row
from summitwater.stands import turned_stand
from summitwater.trade import trade
from summitwater.worths import bears_most, bears_ring
from tests.plain import OpenPlain, is_plain_most, is_plain_ring, is_plain_row, open_answer, search, settled
from tests.samples import CHAMBER, END, STAIR, STEP, kinds_of, small_stands
from tests.test_opened import ONE_MORE, SIX_HUNDRED, TWO_THOUSAND, opened

CHAIN = ((END, CHAMBER, CHAMBER, END), ("up", "up", "up"))


def hill(price, brim=1, deep=0, room=1):
    """A hill of one pound."""
    return ((END, CHAMBER, ("pound", brim, deep, room, price), CHAMBER, END), ("up", "up", "down", "down"))


def two_springs(first, second, many=5):
    """A hill of two pounds, so many gates of it up."""
    places = (END, CHAMBER, ("pound", 1, 1, 1, first), CHAMBER, ("pound", 1, 1, 1, second), CHAMBER, END)
    return (places, ("up",) * many + ("down",) * (6 - many))


def empty(canal):
    return ((0,) * len(canal[0]),) * 3


def every_ring(found):
    """The price and the gain of each ring of stands, one by one."""
    order = {one: number for number, one in enumerate(found)}
    told = []

    def go_on(start, one, seen, price, gain):
        for deed, (behind, paid, gained) in found[one]:
            if behind == start:
                told.append((price + paid, gain + gained))
            elif order[behind] > order[start] and behind not in seen:
                go_on(start, behind, seen | {behind}, price + paid, gain + gained)

    for one in found:
        go_on(one, one, {one}, 0, 0)
    return told


class TradeTest(unittest.TestCase):
    def assert_ring(self, canal, stand, told, found):
        self.assertEqual(len(told), 4)
        way, ring, worths = told[1:]
        self.assertTrue(is_plain_row(way) and is_plain_row(ring))
        plain = OpenPlain(canal, stand)
        for deed in way:
            plain.do(deed)
        start = plain.stand()
        self.assertEqual(open_row(canal, stand, way)[0], start)
        plain = OpenPlain(canal, start)
        seen = []
        for deed in ring:
            plain.do(deed)
            seen.append(plain.stand())
        self.assertEqual(seen[-1], start)
        self.assertEqual(len(set(seen)), len(seen))
        self.assertGreater(plain.gain, 0)
        self.assertEqual(open_row(canal, start, ring), (start, plain.price, plain.gain))
        self.assertIs(bears_ring(canal, stand, plain.price, plain.gain, worths), True)
        self.assertTrue(is_plain_ring(canal, stand, plain.price, plain.gain, worths))
        self.assertEqual({one for one, number in worths}, set(found))
        # No ring is cheaper: lowest sums of its weights settle.
        numbers = settled(found, lambda paid, gained: plain.gain * paid - plain.price * gained)
        self.assertIsNotNone(numbers)
        return fractions.Fraction(plain.price, plain.gain)

    def assert_least(self, canal, stand, told, found):
        self.assertEqual(len(told), 3)
        row, worths = told[1:]
        self.assertTrue(is_plain_row(row))
        most = open_row(canal, stand, row)[2]
        numbers = settled(found, lambda paid, gained: -gained)
        self.assertIsNotNone(numbers)
        self.assertEqual(most, -numbers[stand])
        self.assertIs(bears_most(canal, stand, most, worths), True)
        self.assertTrue(is_plain_most(canal, stand, most, worths))
        self.assertEqual({one for one, number in worths}, set(found))
        return most

    def assert_right(self, canal, stand, limit=2000):
        """Hold what is told against its promise; tell its word, and the price for each gain or the most gain."""
        before = repr((canal, stand))
        told = trade(canal, stand, limit)
        self.assertEqual(repr((canal, stand)), before)
        self.assertIs(type(told), tuple)
        self.assertIs(type(told[-1]), list)
        self.assertEqual(trade(canal, stand, limit), told)
        found = search(canal, stand, 2000, open_answer)
        if told[0] == "ring":
            return ("ring", self.assert_ring(canal, stand, told, found))
        self.assertEqual(kinds_of(told[0]), kinds_of("least"))
        return ("least", self.assert_least(canal, stand, told, found))

    def test_for_nothing(self):
        for canal in (STEP, CHAIN, STAIR):
            self.assertEqual(self.assert_right(canal, empty(canal)), ("ring", 0))
        for brim in (1, 2):
            self.assertEqual(self.assert_right(hill(0, brim), empty(hill(0, brim))), ("ring", 0))

    def test_a_spring_at_each_price(self):
        # A lockful let down on either side brings one barge up, or another one down.
        for price in (1, 2, 5, 50, 98, 99):
            for brim, deep in ((1, 0), (2, 0), (2, 1)):
                canal = hill(price, brim, deep)
                self.assertEqual(self.assert_right(canal, empty(canal)), ("ring", price))

    def test_room_for_two(self):
        for price in (0, 7, 99):
            canal = hill(price, 1, 0, 2)
            self.assertEqual(self.assert_right(canal, empty(canal)), ("ring", fractions.Fraction(price, 1)))

    def test_no_spring(self):
        canal = hill(None, 2)
        self.assertEqual(self.assert_right(canal, empty(canal)), ("least", 0))
        for level in range(3):
            word, most = self.assert_right(canal, ((0, 0, level, 0, 0), (0,) * 5, (0,) * 5))
            self.assertEqual(word, "least")
        self.assertGreater(most, 0)

    def test_nothing_comes_through(self):
        # The barges in both chambers hold one another.
        self.assertEqual(self.assert_right(CHAIN, ((0,) * 4, (0, 1, 0, 0), (0, 0, 1, 0))), ("least", 0))
        # No water comes up to the pound.
        canal = ((END, CHAMBER, ("pound", 3, 3, 1, None), CHAMBER, END), ("up", "up", "down", "down"))
        self.assertEqual(self.assert_right(canal, empty(canal)), ("least", 0))
        # Nothing at all can be done.
        canal = ((END, CHAMBER, CHAMBER, END), ("down", "down", "up"))
        held = ((0, 1, 1, 0), (0, 1, 0, 0), (0, 0, 1, 0))
        self.assertEqual(kinds_of(trade(canal, held, 1)), kinds_of(("least", [], [(held, 0)])))

    def test_two_springs(self):
        # The first ring that is found is another one than the cheapest.
        for first, second, cheapest in ((84, 49, 49), (7, 0, 0), (9, 1, 1), (20, 99, fractions.Fraction(119, 2))):
            canal = two_springs(first, second)
            stand = empty(canal)
            self.assertEqual(self.assert_right(canal, stand), ("ring", cheapest))

    def test_rings_one_by_one(self):
        asked = 0
        for canal, stand in small_stands(111, 300, places=4) + [(STEP, empty(STEP))]:
            stand = opened(stand)
            found = search(canal, stand, 12, open_answer)
            if found is not None:
                word, number = self.assert_right(canal, stand)
                rings = [(price, gain) for price, gain in every_ring(found) if gain > 0]
                self.assertEqual(word, "ring" if rings else "least")
                if rings:
                    self.assertEqual(number, min(fractions.Fraction(*ring) for ring in rings))
                    asked += 1
        self.assertGreater(asked, 20)

    def test_at_random(self):
        seen = {}
        for canal, stand in small_stands(112, 160, places=7):
            stand = opened(stand)
            found = search(canal, stand, 300, open_answer)
            if found is None:
                with self.assertRaises(TooMany):
                    trade(canal, stand, 300)
            else:
                word = self.assert_right(canal, stand, len(found))
                seen[word] = seen.get(word, 0) + 1
        self.assertGreater(sum(seen.values()), 60)
        self.assertGreater(len([number for word, number in seen if word == "least"]), 3)
        self.assertGreater(seen["ring", 0], 20)

    def test_hills_from_other_stands(self):
        numbers = set()
        for canal in (hill(3), hill(5, 2, 1), hill(40, 1, 1)):
            for one in list(search(canal, empty(canal), 2000, open_answer))[::37]:
                numbers.add(self.assert_right(canal, one))
        self.assertGreater(len(numbers), 3)

    def test_from_the_other_side(self):
        canals = [hill(3), hill(None, 2), two_springs(11, 4), two_springs(4, 90, 3), STEP, CHAIN]
        pairs = [(canal, empty(canal)) for canal in canals]
        pairs += [(canal, opened(stand)) for canal, stand in small_stands(113, 40, places=6)]
        for canal, stand in pairs:
            if search(canal, stand, 2000, open_answer) is not None:
                told = self.assert_right(canal, stand)
                self.assertEqual(told, self.assert_right(turned_canal(canal), turned_stand(stand)))

    def test_limits(self):
        for canal, stand in [(STEP, empty(STEP)), (hill(3), empty(hill(3))), (hill(None), empty(hill(None)))]:
            many = len(search(canal, stand, 2000, open_answer))
            self.assert_right(canal, stand, many)
            for limit in (many - 1, many // 2, 1):
                with self.assertRaises(TooMany) as taken:
                    trade(canal, stand, limit)
                self.assertIs(type(taken.exception), TooMany)

    def test_the_limit_left_out(self):
        self.assertIn(trade(*SIX_HUNDRED)[0], ["ring", "least"])
        for canal, stand in (ONE_MORE, TWO_THOUSAND):
            with self.assertRaises(TooMany):
                trade(canal, stand)
            self.assert_right(canal, stand)
        self.assertEqual(inspect.signature(trade).parameters["limit"].default, 600)

    def test_lists_are_the_askers_own(self):
        for canal in (STEP, hill(3), hill(None)):
            asked = trade(canal, empty(canal))
            for at in range(1, len(asked)):
                told = trade(canal, empty(canal))
                told[at].append(None)
                del told[at][0]
                self.assertEqual(trade(canal, empty(canal)), asked)

    def test_the_way_may_be_none(self):
        # From a stand of the ring, or from one that never comes back.
        told = trade(STEP, empty(STEP))
        start = open_row(STEP, empty(STEP), told[1])[0]
        self.assertEqual(self.assert_right(STEP, start), ("ring", 0))
        canal = hill(6)
        held = ((0, 0, 1, 0, 0), (0, 0, 0, 1, 0), (0, 1, 0, 0, 0))
        self.assertEqual(self.assert_right(canal, held), ("ring", 6))
        self.assertEqual(open_done(canal, empty(canal), ("feed", 2))[1], 6)


if __name__ == "__main__":
    unittest.main()
