"""Stands met: promise 14."""

import copy
import inspect
import unittest

from summitwater.errors import TooMany
from summitwater.met import met
from tests.plain import answer, search
from tests.samples import CHAMBER, END, HILL, STAIR, STEP, VALLEY, kinds_of, random_stands, small_stands

# Both ends let water down into the one chamber: where it is full, there is no deed.
SINK = ((END, CHAMBER, END), ("down", "up"))
NONE = (0, 0, 0)
FULL_SINK = ((0, 1, 0), NONE, NONE)

# Of each of these so many stands are met.
SIX_HUNDRED = (
    ((END, CHAMBER, ("pound", 9, 0, 1, 99), CHAMBER, END), ("up", "up", "up", "up")),
    ((0, 0, 0, 0, 0), (1, 1, 1, 0, 0), (0, 0, 0, 0, 0)),
)
ONE_MORE = (
    ((END, CHAMBER, ("pound", 9, 0, 4, 0), CHAMBER, END), ("down", "up", "down", "up")),
    ((0, 0, 4, 1, 0), (0, 0, 3, 0, 0), (0, 0, 1, 1, 1)),
)
TWO_THOUSAND = (
    ((END, CHAMBER, ("pound", 9, 4, 4, 0), CHAMBER, END), ("up", "up", "down", "down")),
    ((0, 0, 9, 0, 0), (1, 0, 0, 1, 0), (0, 0, 3, 0, 0)),
)


class ToldTest(unittest.TestCase):
    """What holds of each list of stands met, of those of open deeds too."""

    met = staticmethod(met)
    answer = staticmethod(answer)

    def assert_told(self, canal, stand, told):
        found = search(canal, stand, 2000, self.answer)
        self.assertIs(type(told), list)
        self.assertEqual(kinds_of(told[0]), kinds_of((stand, None, None)))
        self.assertEqual(len(told), len(found))
        self.assertEqual({one for one, ahead, deed in told}, set(found))
        for number, (one, ahead, deed) in enumerate(told[1:], 1):
            self.assertIs(type(told[number]), tuple)
            self.assertIs(type(ahead), int)
            self.assertTrue(0 <= ahead < number)
            led = self.answer(canal, told[ahead][0], deed)
            self.assertEqual(kinds_of(led[0]), kinds_of(one))

    def assert_too_many(self, canal, stand, *limit):
        with self.assertRaises(TooMany) as taken:
            self.met(canal, stand, *limit)
        self.assertIs(type(taken.exception), TooMany)

    def assert_met(self, canal, stand):
        """Hold the told list against a plain search, and ask with the limits just met and just passed."""
        before = copy.deepcopy((canal, stand))
        told = self.met(canal, stand, 2000)
        self.assert_told(canal, stand, told)
        self.assertEqual(self.met(canal, stand, len(told)), told)
        self.assert_too_many(canal, stand, len(told) - 1)
        if len(told) <= 600:
            self.assertEqual(self.met(canal, stand), told)
        else:
            self.assert_too_many(canal, stand)
        self.assertEqual(kinds_of((canal, stand)), kinds_of(before))

    def assert_own(self, canal, stand):
        told = self.met(canal, stand)
        again = self.met(canal, stand)
        self.assertEqual(told, again)
        told.append(told[0])
        told[0] = None
        self.assertEqual(self.met(canal, stand), again)


class MetTest(ToldTest):
    def test_by_hand(self):
        self.assertEqual(kinds_of(met(SINK, FULL_SINK)), kinds_of([(FULL_SINK, None, None)]))
        empty = (NONE, NONE, NONE)
        told = met(SINK, empty)
        self.assertEqual(kinds_of(told[0]), kinds_of((empty, None, None)))
        self.assertEqual(kinds_of(told[1][:2]), kinds_of((FULL_SINK, 0)))
        self.assertIn(told[1][2], [("let", 0), ("let", 1)])
        self.assertEqual(len(told), 2)
        # A barge that goes right through the full chamber, and is at its end then.
        told = met(SINK, ((0, 1, 0), (1, 0, 0), NONE))
        self.assertEqual(told, [
            (((0, 1, 0), (1, 0, 0), NONE), None, None),
            (((0, 1, 0), (0, 1, 0), NONE), 0, ("right", 0)),
            (((0, 1, 0), (0, 0, 1), NONE), 1, ("right", 1)),
        ])

    def test_the_limit_of_one(self):
        self.assertEqual(met(SINK, FULL_SINK, 1), [(FULL_SINK, None, None)])
        self.assert_too_many(SINK, (NONE, NONE, NONE), 1)
        for canal, stand in random_stands(60, 100):
            if search(canal, stand, 1) is None:
                self.assert_too_many(canal, stand, 1)
            else:
                self.assertEqual(met(canal, stand, 1), [(stand, None, None)])

    def test_just_as_many_as_the_limits(self):
        for (canal, stand), many in ((SIX_HUNDRED, 600), (ONE_MORE, 601), (TWO_THOUSAND, 2000)):
            self.assertEqual(len(met(canal, stand, 2000)), many)
            self.assert_met(canal, stand)

    def test_the_limit_left_out(self):
        self.assertEqual(len(met(*SIX_HUNDRED)), 600)
        self.assert_too_many(*ONE_MORE)
        self.assertEqual(inspect.signature(met).parameters["limit"].default, 600)

    def test_very_many(self):
        # Far more than could be gone through.
        for canal, stand in random_stands(61, 40):
            if len(canal[0]) > 11 and search(canal, stand, 30) is None:
                self.assert_too_many(canal, stand, 30)
                if search(canal, stand, 2000) is None:
                    self.assert_too_many(canal, stand)
                    self.assert_too_many(canal, stand, 2000)

    def test_at_random(self):
        asked = 0
        for canal, stand in small_stands(62, 250, places=7):
            found = search(canal, stand, 150)
            if found is None:
                self.assert_too_many(canal, stand, 150)
            else:
                self.assert_met(canal, stand)
                asked += 1
        self.assertGreater(asked, 100)

    def test_own_canals(self):
        for canal, stand in [
            (HILL, ((0,) * 5, (1, 0, 0, 0, 0), (0, 0, 0, 0, 1))),
            (STEP, (NONE, (2, 0, 0), (0, 0, 2))),
            (STAIR, ((0,) * 5, (1, 0, 1, 0, 0), (0, 0, 0, 0, 1))),
            (VALLEY, ((0,) * 7, (1, 0, 0, 0, 0, 0, 0), (0,) * 7)),
        ]:
            self.assert_met(canal, stand)

    def test_the_list_is_the_askers_own(self):
        for canal, stand in (SIX_HUNDRED, (SINK, FULL_SINK), (STEP, (NONE, (1, 0, 0), (0, 0, 1)))):
            self.assert_own(canal, stand)


if __name__ == "__main__":
    unittest.main()
