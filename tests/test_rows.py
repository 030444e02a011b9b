"""Rows of deeds and their water: promises 11 and 12, and of promise 3 what speaks of rows."""

import copy
import functools
import random
import unittest

from summitwater.canals import turned_canal
from summitwater.deeds import deed_done, turned_deed
from summitwater.errors import Falls, SummitError
from summitwater.rows import row_done, water
from summitwater.stands import is_stand, turned_stand
from tests.plain import Plain, answer, every_deed, random_row
from tests.samples import HILL, RIDGE, STAIR, STEP, kinds_of, random_stand, random_stands, replaced

NONE = (0, 0, 0, 0, 0)
# One barge over the hill, from an empty summit.
OVER = [
    ("feed", 2), ("right", 0), ("feed", 2), ("let", 1), ("right", 1), ("feed", 2), ("let", 2), ("right", 2),
    ("let", 3), ("right", 3), ("let", 0),
]
START = (NONE, (1, 0, 0, 0, 0), NONE)


def rows(seed, many, length):
    """Triples of a canal, a stand and a row that is done from it."""
    source = random.Random(seed)
    return [(canal, stand, random_row(source, canal, stand, length)) for canal, stand in random_stands(seed, many)]


@functools.lru_cache(maxsize=None)
def long_rows():
    """Rows of six thousand deeds, on canals whose water never comes to a stand."""
    source = random.Random(47)
    found = []
    for canal in (HILL, STEP, STAIR, RIDGE):
        last = len(canal[0]) - 1
        zeros = (0,) * (last + 1)
        for stand in (random_stand(source, canal), (zeros, replaced(zeros, 0, 30), replaced(zeros, last, 30))):
            found.append((canal, stand, random_row(source, canal, stand, 6000)))
    return found


def plainly_done(canal, stand, row):
    plain = Plain(canal, stand)
    for deed in row:
        plain.do(deed)
    return plain


class DoneTest(unittest.TestCase):
    def test_the_row_of_none(self):
        for canal, stand in random_stands(41, 30):
            self.assertEqual(kinds_of(row_done(canal, stand, [])), kinds_of((stand, 0, 0)))
            self.assertEqual(kinds_of(water(canal, stand, [])), kinds_of((0, 0, 0)))

    def test_by_hand(self):
        behind = ((0, 0, 1, 0, 0), (0, 0, 0, 0, 1), NONE)
        self.assertEqual(kinds_of(row_done(HILL, START, OVER)), kinds_of((behind, 21, 1)))
        self.assertEqual(kinds_of(water(HILL, START, OVER)), kinds_of((0, 3, 2)))
        # Of STEP the last place is the highest, so its water comes out of an end and goes into one.
        zeros = (0, 0, 0)
        stand = (zeros, (2, 0, 0), (0, 0, 1))
        row = [("right", 0), ("let", 1), ("right", 1), ("left", 1), ("let", 0), ("left", 0), ("let", 1)]
        self.assertEqual(kinds_of(row_done(STEP, stand, row)), kinds_of((((0, 1, 0), (1, 0, 1), (1, 0, 0)), 0, 2)))
        self.assertEqual(kinds_of(water(STEP, stand, row)), kinds_of((2, 0, 1)))

    def test_each_beginning(self):
        for many in range(len(OVER) + 1):
            plain = plainly_done(HILL, START, OVER[:many])
            asked = (plain.stand(), plain.price, plain.gain)
            self.assertEqual(kinds_of(row_done(HILL, START, OVER[:many])), kinds_of(asked))

    def assert_alike(self, canal, stand, row):
        before = copy.deepcopy((canal, stand, row))
        plain = plainly_done(canal, stand, row)
        behind = row_done(canal, stand, row)
        flow = water(canal, stand, row)
        self.assertEqual(kinds_of(behind), kinds_of((plain.stand(), plain.price, plain.gain)))
        self.assertEqual(kinds_of(flow), kinds_of((plain.came, plain.fed, plain.went)))
        self.assertIs(is_stand(canal, behind[0]), True)
        self.assertEqual(sum(behind[0][0]), sum(stand[0]) + flow[0] + flow[1] - flow[2])
        self.assertEqual(kinds_of((canal, stand, row)), kinds_of(before))

    def test_at_random(self):
        for canal, stand, row in rows(42, 250, 60):
            self.assert_alike(canal, stand, row)

    def test_long_ones(self):
        for canal, stand, row in long_rows():
            self.assertEqual(len(row), 6000)
            self.assert_alike(canal, stand, row)
            for at in [0, 1, 3000, 5998, 5999]:
                fallen = row[:at] + [("let", -1)] + row[at + 1:]
                for asked in (row_done, water):
                    with self.assertRaises(Falls) as taken:
                        asked(canal, stand, fallen)
                    self.assertEqual(kinds_of(taken.exception.at), kinds_of(at))

    def test_prices_and_gains_are_sums(self):
        for canal, stand, row in rows(43, 60, 40):
            place, price, gain = stand, 0, 0
            for deed in row:
                place, paid, gained = deed_done(canal, place, deed)
                price += paid
                gain += gained
            self.assertEqual(row_done(canal, stand, row), (place, price, gain))

    def test_from_the_other_side(self):
        for canal, stand, row in rows(44, 100, 50):
            turned = [turned_deed(canal, deed) for deed in row]
            behind, price, gain = row_done(canal, stand, row)
            other = (turned_canal(canal), turned_stand(stand), turned)
            self.assertEqual(row_done(*other), (turned_stand(behind), price, gain))
            self.assertEqual(water(*other), water(canal, stand, row))


class FallsTest(unittest.TestCase):
    def assert_falls(self, canal, stand, row, at):
        before = copy.deepcopy((canal, stand, row))
        for asked in (row_done, water):
            with self.assertRaises(Falls) as taken:
                asked(canal, stand, row)
            self.assertEqual(kinds_of(taken.exception.at), kinds_of(at), (canal, stand, row))
        self.assertEqual(kinds_of((canal, stand, row)), kinds_of(before))

    def test_by_hand(self):
        self.assert_falls(HILL, START, [("let", 0)], 0)
        self.assert_falls(HILL, START, [("let", 9)], 0)
        self.assert_falls(HILL, START, [("feed", 0)], 0)
        # Without the first lockful the pound is too shallow for the fourth deed.
        self.assert_falls(HILL, START, OVER[1:], 3)
        self.assert_falls(HILL, START, OVER + [("let", 0)], 11)
        self.assert_falls(HILL, START, OVER + OVER, 12)
        self.assert_falls(HILL, START, [("feed", 2)] * 4, 3)
        # Behind the first that is refused others are refused, too.
        self.assert_falls(HILL, START, [("feed", 2), ("left", 0), ("left", 0), ("let", -1)], 1)

    def test_each_refusal_at_each_number(self):
        seen = set()
        for canal, stand, row in rows(45, 60, 12):
            for at in range(len(row) + 1):
                middle = plainly_done(canal, stand, row[:at]).stand()
                for deed in every_deed(canal):
                    asked = answer(canal, middle, deed)
                    if isinstance(asked, str):
                        seen.add(asked)
                        self.assert_falls(canal, stand, row[:at] + [deed] + row[at:], at)
        self.assertEqual(seen, {"NoGate", "Dry", "Full", "NoSpring", "NoBarge", "NoRoom", "Uneven", "Shallow"})

    def test_a_deed_struck_or_exchanged(self):
        for canal, stand, row in rows(46, 60, 25):
            for at in range(len(row)):
                self.assert_as_plain(canal, stand, row[:at] + row[at + 1:])
                self.assert_as_plain(canal, stand, row[:at] + row[at:][::-1])

    def assert_as_plain(self, canal, stand, row):
        place = stand
        for at, deed in enumerate(row):
            asked = answer(canal, place, deed)
            if isinstance(asked, str):
                return self.assert_falls(canal, stand, row, at)
            place = asked[0]
        self.assertEqual(row_done(canal, stand, row)[0], place)

    def test_falls_is_what_is_raised_and_nothing_beside(self):
        for row in [[("let", 7)], [("let", 1)], [("right", 1)], [("feed", 1)]]:
            for asked in (row_done, water):
                try:
                    asked(HILL, START, row)
                    self.fail(row)
                except SummitError as error:
                    self.assertIs(type(error), Falls)


if __name__ == "__main__":
    unittest.main()
