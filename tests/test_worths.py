"""Worths: promise 20."""

import functools
import random
import unittest

from summitwater.worths import bears_most, bears_ring
from tests.plain import is_plain_most, is_plain_ring, open_answer, search, settled
from tests.samples import CHAMBER, END, STEP, THINGS, altered, small_stands
from tests.test_opened import opened

ZEROS = (0, 0, 0)
EMPTY = (ZEROS, ZEROS, ZEROS)
# A hill of one pound with a spring: each barge over it needs its water.
SPRING_HILL = ((END, CHAMBER, ("pound", 1, 0, 1, 5), CHAMBER, END), ("up", "up", "down", "down"))
EMPTY_HILL = ((0,) * 5,) * 3
# A chamber that fills from an end and empties into another one, which never empties.
TOWER = ((END, CHAMBER, CHAMBER, END), ("up", "down", "up"))


def ring_worths(found, price, gain):
    numbers = settled(found, lambda paid, gained: gain * paid - price * gained)
    return None if numbers is None else list(numbers.items())


def most_worths(found):
    numbers = settled(found, lambda paid, gained: -gained)
    return None if numbers is None else [(one, -number) for one, number in numbers.items()]


@functools.lru_cache(maxsize=None)
def searched():
    """Triples of a canal, an open stand and its plain search."""
    pairs = [(STEP, EMPTY), (SPRING_HILL, EMPTY_HILL), (TOWER, ((0,) * 4,) * 3)]
    pairs += [(canal, opened(stand)) for canal, stand in small_stands(101, 90, places=6)]
    triples = [(canal, stand, search(canal, stand, 250, open_answer)) for canal, stand in pairs]
    return [triple for triple in triples if triple[2] is not None]


@functools.lru_cache(maxsize=None)
def rings():
    """Canals and open stands with a price, a gain and worths that bear them out."""
    told = []
    for canal, stand, found in searched():
        for price, gain in ((0, 1), (1, 4), (3, 2), (5, 1), (40, 3), (99, 1)):
            worths = ring_worths(found, price, gain)
            if worths is not None:
                told.append((canal, stand, price, gain, worths))
    return told


@functools.lru_cache(maxsize=None)
def mosts():
    """Canals and open stands with a most gain and worths that bear it out."""
    told = []
    for canal, stand, found in searched():
        worths = most_worths(found)
        if worths is not None:
            told.append((canal, stand, dict(worths)[stand], worths))
    return told


class RingTest(unittest.TestCase):
    def assert_borne(self, canal, stand, price, gain, thing, asked):
        before = repr((canal, stand, thing))
        self.assertIs(bears_ring(canal, stand, price, gain, thing), asked, (canal, stand, price, gain, thing))
        self.assertEqual(repr((canal, stand, thing)), before)

    def test_by_hand(self):
        # Through one chamber barges go for nothing.
        stands = list(search(STEP, EMPTY, 9, open_answer))
        self.assertEqual(len(stands), 6)
        flat = [(one, 0) for one in stands]
        self.assert_borne(STEP, EMPTY, 0, 1, flat, True)
        self.assert_borne(STEP, EMPTY, 0, 10 ** 12, flat, True)
        self.assert_borne(STEP, EMPTY, 1, 1, flat, False)
        self.assert_borne(STEP, EMPTY, 0, 1, [(one, -7) for one in stands], True)
        for at in range(6):
            for change in (-1, 1):
                thing = [(one, change if number == at else 0) for number, one in enumerate(stands)]
                self.assert_borne(STEP, EMPTY, 0, 1, thing, False)
        for price in (1, 2, 10 ** 12):
            for gain in (1, 3, 10 ** 12 - 1):
                self.assert_borne(STEP, EMPTY, price, gain, flat, False)

    def test_good_worths_in_any_order(self):
        source = random.Random(102)
        self.assertGreater(len(rings()), 60)
        for canal, stand, price, gain, worths in rings():
            thing = list(worths)
            for number in range(2):
                self.assert_borne(canal, stand, price, gain, thing, True)
                source.shuffle(thing)
            # From each of the stands, and as much higher or lower all together.
            self.assert_borne(canal, thing[0][0], price, gain, thing, True)
            for more in (1, -1, 10 ** 58):
                self.assert_borne(canal, stand, price, gain, [(one, number + more) for one, number in thing], True)

    def test_of_twelve_figures(self):
        for canal, stand, price, gain, worths in rings()[::3]:
            for many in (10 ** 10, 999999999999 // 99):
                thing = [(one, number * many) for one, number in worths]
                self.assert_borne(canal, stand, price * many, gain * many, thing, True)
                at = thing.index((stand, dict(thing)[stand]))
                higher = thing[:at] + [(stand, thing[at][1] + 1)] + thing[at + 1:]
                asked = is_plain_ring(canal, stand, price * many, gain * many, higher)
                self.assert_borne(canal, stand, price * many, gain * many, higher, asked)

    def test_another_price_or_gain(self):
        answers = {True: 0, False: 0}
        for canal, stand, price, gain, worths in rings():
            for change in (1, -1):
                if price + change >= 0:
                    asked = is_plain_ring(canal, stand, price + change, gain, worths)
                    self.assert_borne(canal, stand, price + change, gain, worths, asked)
                    answers[asked] += 1
                if gain + change >= 1:
                    asked = is_plain_ring(canal, stand, price, gain + change, worths)
                    self.assert_borne(canal, stand, price, gain + change, worths, asked)
                    answers[asked] += 1
        self.assertGreater(min(answers.values()), 20)

    def test_a_cheaper_ring(self):
        # Where some ring costs less, there are no worths: these are of a slightly lower price.
        told = [row for row in rings() if row[0] == SPRING_HILL]
        self.assertEqual({(row[2], row[3]) for row in told}, {(0, 1), (1, 4), (3, 2), (5, 1)})
        for canal, stand, price, gain, worths in told:
            self.assert_borne(canal, stand, price, gain, worths, True)
            self.assert_borne(canal, stand, 11, 2, worths, False)
            self.assert_borne(canal, stand, 5 * gain + 1, gain, worths, False)

    def test_one_number_more_or_less(self):
        source = random.Random(103)
        answers = {True: 0, False: 0}
        for canal, stand, price, gain, worths in rings():
            for number in range(4):
                at = source.randrange(len(worths))
                for change in (-1, 1):
                    one, worth = worths[at]
                    thing = worths[:at] + [(one, worth + change)] + worths[at + 1:]
                    asked = is_plain_ring(canal, stand, price, gain, thing)
                    self.assert_borne(canal, stand, price, gain, thing, asked)
                    answers[asked] += 1
        self.assertGreater(min(answers.values()), 60)

    def test_altered(self):
        source = random.Random(104)
        for canal, stand, price, gain, worths in rings():
            for number in range(6):
                thing = altered(source, worths)
                self.assert_borne(canal, stand, price, gain, thing, is_plain_ring(canal, stand, price, gain, thing))

    def test_stands_left_out_or_doubled(self):
        for canal, stand, price, gain, worths in rings()[::4]:
            self.assert_borne(canal, stand, price, gain, [part for part in worths if part[0] != stand], False)
            self.assert_borne(canal, stand, price, gain, worths + worths[:1], False)
            self.assert_borne(canal, stand, price, gain, worths + [(worths[0][0], worths[0][1] + 1)], False)
            self.assert_borne(canal, stand, price, gain, [], False)
            self.assert_borne(canal, stand, price, gain, tuple(worths), False)
            self.assert_borne(canal, stand, price, gain, [list(part) for part in worths], False)
            self.assert_borne(canal, stand, price, gain, [part + (0,) for part in worths], False)
            self.assert_borne(canal, stand, price, gain, [part[:1] for part in worths], False)
            self.assert_borne(canal, stand, price, gain, [(number, one) for one, number in worths], False)
            for other in THINGS + [stand, (stand, None), (EMPTY, True), (((0,) * 9,) * 3, 0)]:
                self.assert_borne(canal, stand, price, gain, worths + [other], False)

    def test_truths_for_numbers(self):
        stands = list(search(STEP, EMPTY, 9, open_answer))
        self.assert_borne(STEP, EMPTY, 0, 1, [(one, False) for one in stands], False)
        self.assert_borne(STEP, EMPTY, 0, 1, [(one, True) for one in stands], False)
        truth = (ZEROS, (0, True, 0), ZEROS)
        self.assertIn(truth, stands)
        self.assert_borne(STEP, EMPTY, 0, 1, [(truth if one == truth else one, 0) for one in stands], False)

    def test_barges_at_the_ends(self):
        # These stay among themselves, but are no open stands.
        waiting = ((0, 1, 0), (2, 0, 0), ZEROS)
        stands = list(search(STEP, EMPTY, 9, open_answer)) + [waiting]
        self.assert_borne(STEP, EMPTY, 0, 1, [(one, 0) for one in stands], False)

    def test_other_things(self):
        for thing in THINGS + [THINGS, tuple(THINGS), EMPTY, [EMPTY], [(EMPTY, 0)], STEP]:
            self.assert_borne(STEP, EMPTY, 0, 1, thing, False)
            self.assert_borne(STEP, EMPTY, 0, 1, [thing], False)
            self.assert_borne(STEP, EMPTY, 0, 1, [(EMPTY, thing)], False)
            self.assert_borne(STEP, EMPTY, 0, 1, [(thing, 0)], False)


class MostTest(unittest.TestCase):
    def assert_borne(self, canal, stand, most, thing, asked):
        before = repr((canal, stand, thing))
        self.assertIs(bears_most(canal, stand, most, thing), asked, (canal, stand, most, thing))
        self.assertEqual(repr((canal, stand, thing)), before)

    def test_by_hand(self):
        # Two full chambers side by side, the barges in them hold one another.
        canal = ((END, CHAMBER, CHAMBER, END), ("down", "down", "up"))
        held = ((0, 1, 1, 0), (0, 1, 0, 0), (0, 0, 1, 0))
        self.assert_borne(canal, held, 0, [(held, 0)], True)
        self.assert_borne(canal, held, 7, [(held, 7)], True)
        self.assert_borne(canal, held, 10 ** 12 - 1, [(held, 10 ** 12 - 1)], True)
        for most, number in ((0, 1), (1, 0), (1, 2), (0, -1), (10 ** 12 - 1, 10 ** 12)):
            self.assert_borne(canal, held, most, [(held, number)], False)
        self.assert_borne(canal, held, 0, [(held, False)], False)
        self.assert_borne(canal, held, 1, [(held, True)], False)
        self.assert_borne(canal, held, 0, [(held, 0), (held, 0)], False)
        self.assert_borne(canal, held, 0, [(held, 0), (held, 1)], False)

    def test_no_number_below_0(self):
        # The empty stand of another list goes beside it, and stays among itself, whatever its numbers are.
        canal = ((END, CHAMBER, CHAMBER, END), ("down", "down", "up"))
        held = ((0, 1, 1, 0), (0, 1, 0, 0), (0, 0, 1, 0))
        lower = ((0, 0, 1, 0), (0, 1, 0, 0), (0, 0, 1, 0))
        found = search(canal, lower, 9, open_answer)
        self.assertEqual(set(found), {held, lower})
        self.assert_borne(canal, lower, 0, [(lower, 0), (held, 0)], True)
        self.assert_borne(canal, lower, 3, [(lower, 3), (held, 0)], True)
        self.assert_borne(canal, lower, 0, [(lower, 0), (held, -1)], False)
        self.assert_borne(canal, lower, 0, [(lower, 0), (held, 1)], False)
        self.assert_borne(canal, held, 0, [(lower, 5), (held, 0)], True)
        self.assert_borne(canal, held, -1, [(lower, 5), (held, -1)], False)

    def test_good_worths_in_any_order(self):
        source = random.Random(105)
        self.assertGreater(len(mosts()), 20)
        self.assertGreater(len({most for canal, stand, most, worths in mosts()}), 2)
        for canal, stand, most, worths in mosts():
            thing = list(worths)
            for number in range(2):
                self.assert_borne(canal, stand, most, thing, True)
                source.shuffle(thing)
            for more in (1, 10 ** 11):
                self.assert_borne(canal, stand, most + more, [(one, number + more) for one, number in thing], True)
                self.assert_borne(canal, stand, most, [(one, number + more) for one, number in thing], False)
            double = [(one, 2 * number) for one, number in thing]
            self.assert_borne(canal, stand, 2 * most, double, True)
            for wrong in (most - 1, most + 1):
                self.assert_borne(canal, stand, wrong, thing, False)
            self.assert_borne(canal, thing[0][0], thing[0][1], thing, True)

    def test_one_number_more_or_less(self):
        source = random.Random(106)
        answers = {True: 0, False: 0}
        for canal, stand, most, worths in mosts():
            for number in range(8):
                at = source.randrange(len(worths))
                for change in (-1, 1):
                    one, worth = worths[at]
                    thing = worths[:at] + [(one, worth + change)] + worths[at + 1:]
                    asked = is_plain_most(canal, stand, most, thing)
                    self.assert_borne(canal, stand, most, thing, asked)
                    answers[asked] += 1
        self.assertGreater(min(answers.values()), 5)

    def test_where_a_ring_gains(self):
        for canal, stand, price, gain, worths in rings():
            if settled(search(canal, stand, 250, open_answer), lambda paid, gained: -gained) is None:
                thing = [(one, abs(number)) for one, number in worths]
                self.assert_borne(canal, stand, dict(thing)[stand], thing, False)
                flat = [(one, 0) for one, number in worths]
                self.assert_borne(canal, stand, 0, flat, False)

    def test_altered(self):
        source = random.Random(107)
        for canal, stand, most, worths in mosts():
            for number in range(25):
                thing = altered(source, worths)
                self.assert_borne(canal, stand, most, thing, is_plain_most(canal, stand, most, thing))

    def test_stands_left_out_or_doubled(self):
        for canal, stand, most, worths in mosts():
            self.assert_borne(canal, stand, most, [part for part in worths if part[0] != stand], False)
            self.assert_borne(canal, stand, most, worths + worths[:1], False)
            self.assert_borne(canal, stand, most, [], False)
            self.assert_borne(canal, stand, most, tuple(worths), False)
            self.assert_borne(canal, stand, most, [list(part) for part in worths], False)
            for other in THINGS + [stand, (stand, None), (((0,) * 9,) * 3, 0)]:
                self.assert_borne(canal, stand, most, worths + [other], False)

    def test_other_things(self):
        for thing in THINGS + [THINGS, tuple(THINGS), EMPTY, [EMPTY], [(EMPTY, 0)], STEP]:
            self.assert_borne(STEP, EMPTY, 0, thing, False)
            self.assert_borne(STEP, EMPTY, 0, [thing], False)
            self.assert_borne(STEP, EMPTY, 0, [(EMPTY, thing)], False)
            self.assert_borne(STEP, EMPTY, 0, [(thing, 0)], False)


if __name__ == "__main__":
    unittest.main()
