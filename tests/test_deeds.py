"""Deeds: promises 8, 9 and 10."""

import copy
import itertools
import unittest

from summitwater import errors
from summitwater.canals import turned_canal
from summitwater.deeds import deed_done, deeds_at, turned_deed
from summitwater.errors import Dry, Full, NoBarge, NoGate, NoRoom, NoSpring, Shallow, SummitError, Uneven
from summitwater.stands import is_stand, turned_stand
from tests.plain import answer, every_deed, possible
from tests.samples import CANALS, CHAMBER, END, HILL, STEP, VALLEY, kinds_of, random_stands

NONE = (0, 0, 0, 0, 0)
GREAT = [-(10 ** 59), 10 ** 59, 2 ** 64, -1000]


def told(canal, stand, deed):
    """The tuple to which a deed leads, or the name of the very class that refuses it."""
    try:
        return deed_done(canal, stand, deed)
    except SummitError as error:
        return type(error).__name__


class DeedTestCase(unittest.TestCase):
    def assert_done(self, canal, stand, deed, behind, price=0, gain=0):
        self.assertIs(is_stand(canal, stand), True)
        self.assertEqual(kinds_of(deed_done(canal, stand, deed)), kinds_of((behind, price, gain)))

    def assert_refused(self, canal, stand, deed, kind):
        self.assertIs(is_stand(canal, stand), True)
        with self.assertRaises(kind):
            deed_done(canal, stand, deed)


class LetTest(DeedTestCase):
    def test_from_a_pound_to_a_chamber_to_an_end(self):
        stand = ((0, 0, 3, 0, 0), (1, 0, 0, 0, 0), NONE)
        second = ((0, 1, 2, 0, 0), (1, 0, 0, 0, 0), NONE)
        third = ((0, 0, 2, 0, 0), (1, 0, 0, 0, 0), NONE)
        self.assert_done(HILL, stand, ("let", 1), second)
        self.assert_done(HILL, second, ("let", 0), third)
        self.assert_done(HILL, third, ("let", 2), ((0, 0, 1, 1, 0), (1, 0, 0, 0, 0), NONE))

    def test_an_end_gives_without_end(self):
        zeros = (0, 0, 0)
        self.assert_done(STEP, (zeros,) * 3, ("let", 1), ((0, 1, 0), zeros, zeros))
        self.assert_done(STEP, ((0, 1, 0), zeros, zeros), ("let", 0), (zeros,) * 3)

    def test_no_gate(self):
        for gate in [-1, -2, -4, -5, 4, 5, 6] + GREAT:
            self.assert_refused(HILL, ((0, 1, 3, 1, 0), NONE, NONE), ("let", gate), NoGate)
            self.assert_refused(HILL, (NONE, NONE, NONE), ("let", gate), NoGate)

    def test_dry(self):
        for gate in range(4):
            self.assert_refused(HILL, (NONE, NONE, NONE), ("let", gate), Dry)

    def test_full(self):
        zeros = (0, 0, 0)
        self.assert_refused(STEP, ((0, 1, 0), zeros, zeros), ("let", 1), Full)
        self.assert_refused(HILL, ((0, 1, 3, 0, 0), NONE, NONE), ("let", 1), Full)
        # In VALLEY place 2 is a pound of brim 2, which the chamber 1 lies above.
        zeros = (0,) * 7
        self.assert_refused(VALLEY, ((0, 1, 2, 0, 0, 0, 0), zeros, zeros), ("let", 1), Full)
        self.assert_done(VALLEY, ((0, 1, 1, 0, 0, 0, 0), zeros, zeros), ("let", 1), ((0, 0, 2, 0, 0, 0, 0), zeros, zeros))

    def test_dry_goes_ahead_of_full(self):
        self.assert_refused(HILL, ((0, 1, 0, 0, 0), NONE, NONE), ("let", 1), Dry)

    def test_barges_are_not_in_the_way(self):
        stand = ((0, 0, 3, 0, 0), (0, 1, 1, 0, 0), (0, 0, 1, 1, 0))
        self.assert_done(HILL, stand, ("let", 1), ((0, 1, 2, 0, 0),) + stand[1:])


class FeedTest(DeedTestCase):
    def test_price(self):
        self.assert_done(HILL, (NONE, NONE, NONE), ("feed", 2), ((0, 0, 1, 0, 0), NONE, NONE), price=7)
        self.assert_done(HILL, ((0, 0, 2, 0, 0), NONE, NONE), ("feed", 2), ((0, 0, 3, 0, 0), NONE, NONE), price=7)
        for price in [0, 1, 98, 99]:
            canal = ((END, CHAMBER, ("pound", 1, 1, 1, price), CHAMBER, END), ("up",) * 4)
            self.assert_done(canal, (NONE, NONE, NONE), ("feed", 2), ((0, 0, 1, 0, 0), NONE, NONE), price=price)

    def test_no_spring(self):
        for number in [0, 1, 3, 4, 5, 6, 7, -1, -2, -3, -4, -5] + GREAT:
            self.assert_refused(HILL, (NONE, NONE, NONE), ("feed", number), NoSpring)
        zeros = (0,) * 7
        self.assert_refused(VALLEY, (zeros,) * 3, ("feed", 2), NoSpring)

    def test_full(self):
        self.assert_refused(HILL, ((0, 0, 3, 0, 0), NONE, NONE), ("feed", 2), Full)

    def test_no_spring_goes_ahead_of_full(self):
        zeros = (0,) * 7
        self.assert_refused(VALLEY, ((0, 0, 2, 0, 0, 0, 0), zeros, zeros), ("feed", 2), NoSpring)


class MoveTest(DeedTestCase):
    def test_a_way_over_the_hill(self):
        # The gate 0 is up: its higher place is the chamber, which must be empty.
        self.assert_refused(HILL, ((0, 1, 3, 0, 0), (2, 0, 0, 0, 0), NONE), ("right", 0), Uneven)
        stand = ((0, 0, 3, 0, 0), (2, 0, 0, 0, 0), NONE)
        stand = self.done(stand, ("right", 0), ((0, 0, 3, 0, 0), (1, 1, 0, 0, 0), NONE))
        # Into the pound the chamber, the lower place, must be full.
        self.assert_refused(HILL, stand, ("right", 1), Uneven)
        stand = self.done(stand, ("let", 1), ((0, 1, 2, 0, 0), (1, 1, 0, 0, 0), NONE))
        stand = self.done(stand, ("right", 1), ((0, 1, 2, 0, 0), (1, 0, 1, 0, 0), NONE))
        self.assert_refused(HILL, stand, ("right", 2), Uneven)
        stand = self.done(stand, ("let", 2), ((0, 1, 1, 1, 0), (1, 0, 1, 0, 0), NONE))
        stand = self.done(stand, ("right", 2), ((0, 1, 1, 1, 0), (1, 0, 0, 1, 0), NONE))
        self.assert_refused(HILL, stand, ("right", 3), Uneven)
        stand = self.done(stand, ("let", 3), ((0, 1, 1, 0, 0), (1, 0, 0, 1, 0), NONE))
        stand = self.done(stand, ("right", 3), ((0, 1, 1, 0, 0), (1, 0, 0, 0, 1), NONE), gain=1)

    def done(self, stand, deed, behind, gain=0):
        self.assert_done(HILL, stand, deed, behind, gain=gain)
        return behind

    def test_left_ones(self):
        self.assert_done(HILL, (NONE, NONE, (0, 0, 0, 0, 3)), ("left", 3), (NONE, NONE, (0, 0, 0, 1, 2)))
        self.assert_done(HILL, (NONE, NONE, (4, 1, 0, 0, 0)), ("left", 0), (NONE, NONE, (5, 0, 0, 0, 0)), gain=1)

    def test_gain_is_only_at_the_own_end(self):
        zeros = (0, 0, 0)
        self.assert_done(STEP, (zeros, (1, 0, 0), zeros), ("right", 0), (zeros, (0, 1, 0), zeros))
        full = (0, 1, 0)
        self.assert_done(STEP, (full, full, zeros), ("right", 1), (full, (0, 0, 1), zeros), gain=1)
        self.assert_done(STEP, (full, zeros, (0, 0, 1)), ("left", 1), (full, zeros, full))
        self.assert_done(STEP, (zeros, zeros, full), ("left", 0), (zeros, zeros, (1, 0, 0)), gain=1)

    def test_no_gate(self):
        for word in ("right", "left"):
            for gate in [-1, -2, -4, -5, 4, 5, 6] + GREAT:
                self.assert_refused(HILL, (NONE, (9, 0, 0, 0, 9), (9, 0, 0, 0, 9)), (word, gate), NoGate)

    def test_no_barge(self):
        for gate in range(4):
            self.assert_refused(HILL, (NONE, NONE, NONE), ("right", gate), NoBarge)
            self.assert_refused(HILL, (NONE, NONE, NONE), ("left", gate), NoBarge)
        # There are barges that go the other way, and barges beyond the gate.
        self.assert_refused(HILL, (NONE, NONE, (3, 0, 0, 0, 0)), ("right", 0), NoBarge)
        self.assert_refused(HILL, (NONE, (0, 1, 0, 0, 0), NONE), ("left", 0), NoBarge)
        self.assert_refused(HILL, (NONE, (0, 1, 0, 0, 0), NONE), ("right", 0), NoBarge)
        self.assert_refused(HILL, (NONE, NONE, (3, 0, 0, 0, 0)), ("left", 0), NoBarge)

    def test_no_room_in_a_chamber(self):
        for rights, lefts in [((2, 1, 0, 0, 0), NONE), ((2, 0, 0, 0, 0), (0, 1, 0, 0, 0))]:
            self.assert_refused(HILL, (NONE, rights, lefts), ("right", 0), NoRoom)

    def test_no_room_in_a_pound(self):
        levels = (0, 1, 3, 0, 0)
        for here, there in [(2, 0), (1, 1), (0, 2)]:
            stand = (levels, (0, 1, here, 0, 0), (0, 0, there, 0, 0))
            self.assert_refused(HILL, stand, ("right", 1), NoRoom)
        for here, there in [(1, 0), (0, 1)]:
            stand = (levels, (0, 1, here, 0, 0), (0, 0, there, 0, 0))
            self.assert_done(HILL, stand, ("right", 1), (levels, (0, 0, here + 1, 0, 0), (0, 0, there, 0, 0)))

    def test_ends_have_room_for_all(self):
        levels = (0, 0, 3, 0, 0)
        self.assert_done(HILL, (levels, (0, 0, 0, 1, 59), NONE), ("right", 3), (levels, (0, 0, 0, 0, 60), NONE), gain=1)
        self.assert_done(
            HILL, (levels, (9, 0, 0, 0, 20), (30, 1, 0, 0, 0)), ("left", 0),
            (levels, (9, 0, 0, 0, 20), (31, 0, 0, 0, 0)), gain=1,
        )
        self.assert_done(HILL, (levels, (60, 0, 0, 0, 0), NONE), ("right", 0), (levels, (59, 1, 0, 0, 0), NONE))

    def test_shallow(self):
        # HILL's pound has a deep of 1.
        self.assert_refused(HILL, ((0, 1, 0, 0, 0), (0, 1, 0, 0, 0), NONE), ("right", 1), Shallow)
        self.assert_refused(HILL, ((0, 1, 0, 0, 0), NONE, (0, 0, 1, 0, 0)), ("left", 1), Shallow)
        self.assert_done(
            HILL, ((0, 1, 1, 0, 0), NONE, (0, 0, 1, 0, 0)), ("left", 1), ((0, 1, 1, 0, 0), NONE, (0, 1, 0, 0, 0)),
        )

    def test_a_pound_as_the_lower_place(self):
        # In VALLEY place 2 has a brim and a deep of 2, and lies below the chambers beside it.
        zeros = (0,) * 7
        barge = (0, 1, 0, 0, 0, 0, 0)
        for level, chamber, kind in [(0, 0, Shallow), (1, 0, Shallow), (2, 1, Uneven), (1, 1, Uneven)]:
            stand = ((0, chamber, level, 0, 0, 0, 0), barge, zeros)
            self.assert_refused(VALLEY, stand, ("right", 1), kind)
        levels = (0, 0, 2, 0, 0, 0, 0)
        self.assert_done(VALLEY, (levels, barge, zeros), ("right", 1), (levels, (0, 0, 1, 0, 0, 0, 0), zeros))

    def test_the_refusal_named_first_goes_first(self):
        # A full pound of barges, too shallow, beside an uneven chamber.
        there = (0, 0, 2, 0, 0)
        self.assert_refused(HILL, (NONE, there, NONE), ("right", 1), NoBarge)
        self.assert_refused(HILL, (NONE, (0, 1, 2, 0, 0), NONE), ("right", 1), NoRoom)
        self.assert_refused(HILL, (NONE, (0, 1, 1, 0, 0), NONE), ("right", 1), Uneven)
        self.assert_refused(HILL, ((0, 1, 0, 0, 0), (0, 1, 1, 0, 0), NONE), ("right", 1), Shallow)

    def test_two_chambers(self):
        canal = ((END, CHAMBER, CHAMBER, END), ("up", "up", "up"))
        zeros = (0,) * 4
        for low, high in itertools.product([0, 1], repeat=2):
            stand = ((0, low, high, 0), (0, 1, 0, 0), zeros)
            if (low, high) == (1, 0):
                self.assert_done(canal, stand, ("right", 1), ((0, 1, 0, 0), (0, 0, 1, 0), zeros))
            else:
                self.assert_refused(canal, stand, ("right", 1), Uneven)


class AllTest(unittest.TestCase):
    def test_every_deed_at_many_stands(self):
        seen = set()
        for canal, stand in random_stands(31, 700):
            before = copy.deepcopy((canal, stand))
            for deed in every_deed(canal) + [(word, number) for word in ("let", "feed", "right", "left") for number in GREAT]:
                asked = answer(canal, stand, deed)
                self.assertEqual(kinds_of(told(canal, stand, deed)), kinds_of(asked), (canal, stand, deed))
                seen.add((deed[0], asked if isinstance(asked, str) else asked[2]))
            self.assertEqual(kinds_of((canal, stand)), kinds_of(before))
        moves = {(word, kind) for word in ("right", "left") for kind in (
            "NoGate", "NoBarge", "NoRoom", "Uneven", "Shallow", 0, 1)}
        lets = {("let", kind) for kind in ("NoGate", "Dry", "Full", 0)}
        feeds = {("feed", kind) for kind in ("NoSpring", "Full", 0)}
        self.assertEqual(seen, moves | lets | feeds)

    def test_each_refusal_is_one_of_the_programs(self):
        for canal, stand in random_stands(32, 20):
            for deed in every_deed(canal):
                answered = told(canal, stand, deed)
                if isinstance(answered, str):
                    with self.assertRaises(getattr(errors, answered)):
                        deed_done(canal, stand, deed)

    def test_asked_again_is_told_again_alike(self):
        for canal, stand in random_stands(33, 30):
            for deed in every_deed(canal):
                self.assertEqual(told(canal, stand, deed), told(canal, stand, deed))


class DeedsAtTest(unittest.TestCase):
    def test_by_hand(self):
        stand = ((0, 0, 2, 1, 0), (3, 0, 1, 0, 0), (0, 1, 0, 0, 4))
        deeds = [("let", 1), ("let", 3), ("feed", 2), ("right", 2), ("left", 0)]
        self.assertEqual(kinds_of(deeds_at(HILL, stand)), kinds_of(deeds))

    def test_none(self):
        canal = ((END, CHAMBER, CHAMBER, END), ("up", "down", "up"))
        zeros = (0,) * 4
        stuck = ((0, 1, 1, 0), zeros, zeros)
        # The chamber 1 is higher than both neighbours, the chamber 2 lower than both.
        self.assertEqual(deeds_at(canal, stuck), [("let", 0)])
        self.assertEqual(deeds_at(canal, ((0, 0, 1, 0), zeros, zeros)), [])

    def test_just_those_that_can_be_done_in_their_order(self):
        for canal, stand in random_stands(34, 400):
            self.assertEqual(kinds_of(deeds_at(canal, stand)), kinds_of(possible(canal, stand)))

    def test_the_list_is_the_askers_own(self):
        for canal, stand in random_stands(35, 20):
            first = deeds_at(canal, stand)
            second = deeds_at(canal, stand)
            self.assertIsNot(first, second)
            first.append(("let", 0))
            first.reverse()
            self.assertEqual(second, possible(canal, stand))
            self.assertEqual(deeds_at(canal, stand), second)


class TurnedTest(unittest.TestCase):
    def test_by_hand(self):
        self.assertEqual(kinds_of(turned_deed(HILL, ("let", 0))), kinds_of(("let", 3)))
        self.assertEqual(turned_deed(HILL, ("feed", 2)), ("feed", 2))
        self.assertEqual(turned_deed(HILL, ("feed", 0)), ("feed", 4))
        self.assertEqual(turned_deed(HILL, ("right", 1)), ("left", 2))
        self.assertEqual(turned_deed(HILL, ("left", 3)), ("right", 0))

    def real_deeds(self, canal):
        gates = range(len(canal[1]))
        deeds = [(word, gate) for word in ("let", "right", "left") for gate in gates]
        return deeds + [("feed", place) for place in range(len(canal[0]))]

    def test_turned_again(self):
        for canal in CANALS:
            for deed in self.real_deeds(canal):
                turned = turned_deed(canal, deed)
                self.assertEqual(kinds_of(turned_deed(turned_canal(canal), turned)), kinds_of(deed))

    def test_it_does_the_like(self):
        for canal, stand in random_stands(36, 300):
            for deed in self.real_deeds(canal):
                here = told(canal, stand, deed)
                there = told(turned_canal(canal), turned_stand(stand), turned_deed(canal, deed))
                if isinstance(here, tuple):
                    here = (turned_stand(here[0]),) + here[1:]
                self.assertEqual(kinds_of(there), kinds_of(here), (canal, stand, deed))


if __name__ == "__main__":
    unittest.main()
