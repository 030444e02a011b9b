"""Pairs of stands that show that a rule never pays more: promise 30."""

import functools
import random
import unittest

from summitwater.errors import TooMany
from summitwater.held import held
from summitwater.pairs import shows_no_more
from tests.keepers import is_plain_no_more, plain_pairs, random_matches
from tests.samples import HILL, THINGS, altered, kinds_of
from tests.test_houses import EMPTY, NONE, OVER, waiting

FEED = (((), ("feed", 2)),)
# One lockful less is fed by this than by the other.
FEED_LESS = (((("most", 2, 1),), ("feed", 2)),)
FED = [((0, 0, level, 0, 0), NONE, NONE) for level in range(4)]
# The pairs that are met by both, without anybody who waits.
TABLE = [(FED[0], FED[0], 0), (FED[1], FED[1], 0), (FED[2], FED[2], 0), (FED[2], FED[3], -7)]


@functools.lru_cache(maxsize=None)
def samples(seed, many, most):
    """Matches, each with pairs that show that its first rule never pays more."""
    told = []
    for match in random_matches(seed, many):
        try:
            word, pairs = held(*match, most)
        except TooMany:
            continue
        if word == "never":
            told.append((match, pairs))
    return told


def least_behind(found):
    """For each pair the greatest number with which no row of comings from it comes above 0."""
    numbers = {pair: 0 for pair in found}
    changed = True
    while changed:
        changed = False
        for pair in found:
            number = min(numbers[behind] - dearer for behind, dearer in found[pair])
            if number < numbers[pair]:
                numbers[pair] = number
                changed = True
    return numbers


class ShowsNoMoreTest(unittest.TestCase):
    def assert_shown(self, match, thing, asked):
        before = repr((match, thing))
        self.assertIs(shows_no_more(*match, thing), asked, (match, thing))
        self.assertEqual(repr((match, thing)), before)

    def test_by_hand(self):
        match = (HILL, FEED_LESS, FEED, 0, EMPTY)
        self.assert_shown(match, TABLE, True)
        self.assert_shown(match, TABLE[::-1], True)
        self.assert_shown(match, TABLE[2:] + TABLE[:2], True)
        # A number may be greater than what is paid, as far as no other one must then be above 0.
        self.assert_shown(match, TABLE[:3] + [(FED[2], FED[3], 0)], True)
        self.assert_shown(match, TABLE[:3] + [(FED[2], FED[3], -6)], True)
        self.assert_shown(match, TABLE[:3] + [(FED[2], FED[3], -8)], False)
        self.assert_shown(match, TABLE[:3] + [(FED[2], FED[3], 1)], False)
        # The other way about the one pays more.
        turned = (HILL, FEED, FEED_LESS, 0, EMPTY)
        self.assert_shown(turned, [(others, ones, -number) for ones, others, number in TABLE], False)
        self.assert_shown(turned, [(others, ones, 0) for ones, others, number in TABLE], False)

    def test_the_first_pair(self):
        match = (HILL, FEED_LESS, FEED, 0, EMPTY)
        self.assert_shown(match, [], False)
        self.assert_shown(match, TABLE[1:], False)
        lower = [(ones, others, number - 1) for ones, others, number in TABLE]
        self.assert_shown(match, lower, False)
        self.assert_shown(match, [(ones, others, number + 1) for ones, others, number in TABLE], False)
        # Below 0 the others may be, where their pairs don't come of the first one.
        self.assert_shown((HILL, FEED_LESS, FEED, 0, FED[1]), TABLE, True)
        self.assert_shown((HILL, FEED_LESS, FEED, 0, FED[1]), lower[:1] + TABLE[1:], True)
        self.assert_shown((HILL, FEED_LESS, FEED, 0, FED[1]), TABLE[1:], True)
        self.assert_shown((HILL, FEED_LESS, FEED, 0, FED[1]), lower[1:], False)
        # A pair of two other stands is none of the first ones.
        self.assert_shown((HILL, FEED_LESS, FEED, 0, FED[3]), TABLE, False)

    def test_a_pair_left_out_or_twice(self):
        for match, pairs in [((HILL, FEED_LESS, FEED, 0, EMPTY), TABLE)] + samples(261, 60, 60):
            self.assert_shown(match, list(pairs), True)
            for at, (ones, others, number) in enumerate(pairs):
                rest = pairs[:at] + pairs[at + 1:]
                self.assert_shown(match, rest, False)
                self.assert_shown(match, pairs + [pairs[at]], False)
                self.assert_shown(match, [(ones, others, number - 1)] + pairs, False)
                self.assert_shown(match, pairs + [(ones, others, 0)], False)

    def test_what_is_told(self):
        below = 0
        for match, pairs in samples(262, 300, 300):
            self.assertTrue(is_plain_no_more(*match, pairs))
            self.assert_shown(match, pairs, True)
            below += any(number < 0 for ones, others, number in pairs)
        self.assertGreater(below, 20)

    def test_other_numbers(self):
        for match, pairs in samples(262, 300, 300)[:120]:
            found = plain_pairs(*match, 300)
            greatest = [pair + (number,) for pair, number in least_behind(found).items()]
            self.assert_shown(match, greatest, True)
            half = {(ones, others): number for ones, others, number in pairs}
            for pair, number in least_behind(found).items():
                half[pair] = (half[pair] + number) // 2
            thing = [pair + (number,) for pair, number in half.items()]
            self.assert_shown(match, thing, is_plain_no_more(*match, thing))

    def test_further_pairs(self):
        # Pairs from another stand on, besides, each with the greater of both numbers.
        many = 0
        for (canal, one, other, crowd, stand), pairs in samples(262, 300, 300)[:120]:
            further = plain_pairs(canal, one, other, crowd, ((0,) * len(canal[0]),) * 3, 300)
            if further is None or any(dearer > 0 for pair in further for behind, dearer in further[pair]):
                continue
            numbers = {pair: 0 for pair in further}
            for ones, others, number in pairs:
                numbers[(ones, others)] = max(numbers.get((ones, others), number), number)
            thing = [pair + (number,) for pair, number in numbers.items()]
            self.assertTrue(is_plain_no_more(canal, one, other, crowd, stand, thing))
            self.assert_shown((canal, one, other, crowd, stand), thing, True)
            many += len(thing) > len(pairs)
        self.assertGreater(many, 10)

    def test_numbers_changed_by_one(self):
        answers = {True: 0, False: 0}
        tables = [(match, pairs) for match, pairs in samples(262, 300, 300) if min(pair[2] for pair in pairs) < 0]
        for match, pairs in [((HILL, FEED_LESS, FEED, 0, EMPTY), TABLE)] + tables:
            if len(pairs) > 60:
                continue
            for at, (ones, others, number) in enumerate(pairs):
                for change in (1, -1):
                    thing = pairs[:at] + [(ones, others, number + change)] + pairs[at + 1:]
                    asked = is_plain_no_more(*match, thing)
                    self.assert_shown(match, thing, asked)
                    answers[asked] += 1
        self.assertGreater(min(answers.values()), 20)

    def test_other_kinds(self):
        match = (HILL, FEED_LESS, FEED, 0, EMPTY)
        for at in range(4):
            ones, others, number = TABLE[at]
            for part in [
                (ones, others, bool(number)), (ones, others, None), (ones, others, str(number)), (ones, others),
                (ones, others, number, number), [ones, others, number], (list(ones), others, number),
                (ones, [list(row) for row in others], number), (number, ones, others), (None, others, number),
                (ones, None, number), (ones, others, (number,)), (ones, others, [number]), ones, number, None, (), [],
            ]:
                self.assert_shown(match, TABLE[:at] + [part] + TABLE[at + 1:], False)
        self.assert_shown(match, tuple(TABLE), False)
        self.assert_shown(match, ("never", TABLE), False)
        self.assert_shown(match, [TABLE], False)

    def test_stands_that_are_no_houses(self):
        match = (HILL, (), (), 1, EMPTY)
        pairs = held(*match)[1]
        self.assert_shown(match, pairs, True)
        # One more than the crowd waits, and barges that are through; nothing comes of these but themselves.
        for stand in [waiting(2, 0), waiting(0, 2), (NONE, (0, 0, 0, 0, 1), NONE), (NONE, NONE, (1, 0, 0, 0, 0))]:
            for part in [(stand, stand, -1), (stand, EMPTY, -1), (EMPTY, stand, -1), (stand, stand, 0)]:
                self.assert_shown(match, pairs + [part], False)
        self.assert_shown((HILL, (), (), 1, waiting(2, 2)), pairs + [(waiting(2, 2), waiting(2, 2), 0)], False)
        greater = held(HILL, (), (), 2, EMPTY)[1]
        self.assert_shown(match, greater, False)
        self.assert_shown((HILL, (), (), 2, EMPTY), greater, True)

    def test_all_four_comings(self):
        # Each of these pairs comes of the first one by one coming alone.
        match = (HILL, (), (), 1, EMPTY)
        all_pairs = [(waiting(right, left),) * 2 + (0,) for right in (0, 1) for left in (0, 1)]
        self.assert_shown(match, all_pairs, True)
        for at in range(4):
            self.assert_shown(match, all_pairs[:at] + all_pairs[at + 1:], False)

    def test_altered(self):
        source = random.Random(264)
        answers = {True: 0, False: 0}
        for match, pairs in samples(265, 150, 30) + [((HILL, FEED_LESS, FEED, 0, EMPTY), TABLE)] * 30:
            for number in range(12):
                thing = altered(source, pairs)
                asked = is_plain_no_more(*match, thing)
                self.assert_shown(match, thing, asked)
                answers[asked] += 1
        self.assertGreater(min(answers.values()), 50)

    def test_other_things(self):
        for match in [(HILL, FEED_LESS, FEED, 0, EMPTY), (HILL, (), OVER, 4, EMPTY)]:
            for thing in THINGS + [THINGS, tuple(THINGS), HILL, EMPTY]:
                self.assert_shown(match, thing, False)
                self.assert_shown(match, [thing], False)
                self.assert_shown(match, TABLE + [thing], False)
                self.assert_shown(match, [(thing, thing, 0)], False)
                self.assert_shown(match, [(EMPTY, EMPTY, thing)], False)

    def test_what_is_handed_in_is_not_kept(self):
        match = (HILL, FEED_LESS, FEED, 0, EMPTY)
        thing = list(TABLE)
        self.assert_shown(match, thing, True)
        thing.pop()
        self.assert_shown(match, thing, False)
        self.assertEqual(kinds_of(thing), kinds_of(TABLE[:-1]))


if __name__ == "__main__":
    unittest.main()
