"""Stands: promise 7, and of promise 10 what speaks of stands."""

import copy
import itertools
import unittest

from summitwater.canals import turned_canal
from summitwater.stands import is_stand, is_through, turned_stand
from tests.samples import CANALS, CHAMBER, END, HILL, LONG, STEP, THINGS, kinds_of, random_stands, replaced

NONE = (0, 0, 0, 0, 0)


def empty(canal):
    return ((0,) * len(canal[0]),) * 3


class IsStandTest(unittest.TestCase):
    def assert_stand(self, canal, thing):
        self.assertIs(is_stand(canal, thing), True, (canal, thing))

    def assert_none(self, canal, thing):
        before = copy.deepcopy(thing)
        self.assertIs(is_stand(canal, thing), False, (canal, thing))
        self.assertEqual(kinds_of(thing), kinds_of(before))

    def test_empty_and_at_random(self):
        for canal in CANALS:
            self.assert_stand(canal, empty(canal))
        for canal, stand in random_stands(21, 300):
            self.assert_stand(canal, stand)

    def test_levels(self):
        # Of HILL the places' highest levels are these.
        for at, most in enumerate([0, 1, 3, 1, 0]):
            for level in range(-3, 13):
                thing = (replaced(NONE, at, level), NONE, NONE)
                if 0 <= level <= most:
                    self.assert_stand(HILL, thing)
                else:
                    self.assert_none(HILL, thing)
            for level in [10 ** 59, -(10 ** 59)]:
                self.assert_none(HILL, (replaced(NONE, at, level), NONE, NONE))
        self.assert_stand(HILL, ((0, 1, 3, 1, 0), NONE, NONE))

    def test_brims(self):
        for brim in range(1, 10):
            canal = ((END, CHAMBER, ("pound", brim, 0, 1, None), CHAMBER, END), ("up",) * 4)
            self.assert_stand(canal, ((0, 0, brim, 0, 0), NONE, NONE))
            self.assert_none(canal, ((0, 0, brim + 1, 0, 0), NONE, NONE))

    def test_rooms(self):
        for room in range(1, 5):
            canal = ((END, CHAMBER, ("pound", 9, 0, room, None), CHAMBER, END), ("up",) * 4)
            for rights, lefts in itertools.product(range(7), repeat=2):
                pound = (NONE, (0, 0, rights, 0, 0), (0, 0, lefts, 0, 0))
                self.assertIs(is_stand(canal, pound), rights + lefts <= room)
                chamber = (NONE, (0, 0, 0, rights, 0), (0, 0, 0, lefts, 0))
                self.assertIs(is_stand(canal, chamber), rights + lefts <= 1)

    def test_sixty_barges(self):
        for first, second, third, fourth in itertools.product([0, 1, 20, 29, 30, 31, 59, 60, 61], repeat=4):
            thing = (NONE, (first, 0, 0, 0, second), (third, 0, 0, 0, fourth))
            self.assertIs(is_stand(HILL, thing), first + second + third + fourth <= 60)
        rights = (50, 1, 1, 0, 3)
        self.assert_stand(HILL, (NONE, rights, (0, 0, 1, 1, 3)))
        self.assert_none(HILL, (NONE, rights, (0, 0, 1, 1, 4)))
        self.assert_none(HILL, (NONE, rights, (1, 0, 1, 1, 3)))
        self.assert_none(HILL, (NONE, (10 ** 59, 0, 0, 0, 0), NONE))

    def test_numbers_below_0(self):
        for row in range(3):
            for at in range(5):
                self.assert_none(HILL, replaced((NONE, NONE, NONE), row, replaced(NONE, at, -1)))
        # The sum alone would be in bounds.
        self.assert_none(HILL, (NONE, (0, 0, -1, 0, 0), (0, 0, 1, 0, 0)))
        self.assert_none(HILL, (NONE, (61, -1, 0, 0, 0), NONE))

    def test_a_thing_of_another_kind_for_a_number(self):
        for row in range(3):
            for at in range(5):
                for other in [True, False, None, "0", "", (0,), [0], ()]:
                    self.assert_none(HILL, replaced((NONE, NONE, NONE), row, replaced(NONE, at, other)))

    def test_rows_of_another_form(self):
        for row in range(3):
            for other in [NONE[1:], NONE + (0,), list(NONE), (), [], None, 0, True, "00000", (NONE,), NONE * 2, (0,) * 9999]:
                self.assert_none(HILL, replaced((NONE, NONE, NONE), row, other))

    def test_more_or_fewer_rows(self):
        for thing in [(), (NONE,), (NONE,) * 2, (NONE,) * 4, [NONE, NONE, NONE], NONE, list(NONE), (NONE,) * 5]:
            self.assert_none(HILL, thing)

    def test_rows_exchanged(self):
        stand = ((0, 1, 3, 1, 0), (9, 1, 0, 0, 0), (0, 0, 0, 1, 7))
        self.assert_stand(HILL, stand)
        for rows in itertools.permutations(stand):
            # Only the levels must be where they are.
            self.assertIs(is_stand(HILL, rows), rows[0] == stand[0])

    def test_a_stand_of_another_canal(self):
        for canal in CANALS:
            for other in CANALS:
                self.assertIs(is_stand(canal, empty(other)), len(canal[0]) == len(other[0]))

    def test_other_things(self):
        for canal in [STEP, HILL, LONG]:
            for thing in THINGS + [tuple(THINGS), list(THINGS), canal, (canal,) * 3]:
                self.assert_none(canal, thing)
                self.assert_none(canal, (empty(canal)[0], thing, empty(canal)[0]))

    def test_one_number_more_or_fewer(self):
        for canal, stand in random_stands(22, 60):
            for row in range(3):
                for at in range(len(canal[0])):
                    for more in (-1, 1):
                        thing = replaced(stand, row, replaced(stand[row], at, stand[row][at] + more))
                        self.assertIs(is_stand(canal, thing), self.is_within(canal, thing), (canal, thing))

    def is_within(self, canal, stand):
        """Whether each number is within its bounds, reckoned from lists of all that may be."""
        levels, rights, lefts = stand
        good = sum(rights + lefts) in range(61) and min(rights + lefts) >= 0
        for place, level, barges in zip(canal[0], levels, map(sum, zip(rights, lefts))):
            if place == END:
                good = good and level == 0
            elif place == CHAMBER:
                good = good and level in (0, 1) and barges in (0, 1)
            else:
                good = good and level in range(place[1] + 1) and barges in range(place[3] + 1)
        return good


class IsThroughTest(unittest.TestCase):
    def test_without_barges(self):
        for canal in CANALS:
            self.assertIs(is_through(canal, empty(canal)), True)
        self.assertIs(is_through(HILL, ((0, 1, 3, 1, 0), NONE, NONE)), True)

    def test_all_at_their_ends(self):
        self.assertIs(is_through(HILL, (NONE, (0, 0, 0, 0, 30), (30, 0, 0, 0, 0))), True)
        self.assertIs(is_through(HILL, (NONE, (0, 0, 0, 0, 1), NONE)), True)
        self.assertIs(is_through(HILL, (NONE, NONE, (1, 0, 0, 0, 0))), True)

    def test_one_elsewhere(self):
        for canal in CANALS:
            last = len(canal[0]) - 1
            zeros = (0,) * (last + 1)
            for place in range(last + 1):
                one = replaced(zeros, place, 1)
                self.assertIs(is_through(canal, (zeros, one, zeros)), place == last)
                self.assertIs(is_through(canal, (zeros, zeros, one)), place == 0)
                self.assertIs(is_through(canal, (zeros, replaced(one, last, 3), replaced(zeros, 0, 2))), place == last)
                self.assertIs(is_through(canal, (zeros, replaced(zeros, last, 3), replaced(one, 0, 2))), place == 0)

    def test_at_random(self):
        for canal, stand in random_stands(23, 300):
            last = len(canal[0]) - 1
            away = [place for place, many in enumerate(stand[1]) if many and place != last]
            away += [place for place, many in enumerate(stand[2]) if many and place != 0]
            self.assertIs(is_through(canal, stand), away == [])


class TurnedStandTest(unittest.TestCase):
    def test_by_hand(self):
        stand = ((0, 1, 2, 0, 0), (5, 1, 0, 0, 2), (0, 0, 1, 1, 9))
        turned = ((0, 0, 2, 1, 0), (9, 1, 1, 0, 0), (2, 0, 0, 1, 5))
        self.assertEqual(kinds_of(turned_stand(stand)), kinds_of(turned))

    def test_turned_again(self):
        for canal, stand in random_stands(24, 200):
            turned = turned_stand(stand)
            self.assertIs(is_stand(turned_canal(canal), turned), True)
            self.assertEqual(kinds_of(turned_stand(turned)), kinds_of(stand))
            self.assertIs(is_through(turned_canal(canal), turned), is_through(canal, stand))


if __name__ == "__main__":
    unittest.main()
