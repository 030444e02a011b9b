"""Open stands: promise 18."""

import copy
import inspect
import random
import unittest

from summitwater import errors
from summitwater.canals import turned_canal
from summitwater.deeds import deed_done, turned_deed
from summitwater.errors import Falls, SummitError
from summitwater.opened import is_open, open_deeds, open_done, open_met, open_row
from summitwater.stands import turned_stand
from tests.plain import OpenPlain, any_done, every_deed, is_plain_stand, open_answer, search
from tests.samples import CANALS, CHAMBER, END, HILL, RIDGE, STAIR, STEP, THINGS, altered, kinds_of, random_stands
from tests.samples import replaced, small_stands
from tests.test_met import ToldTest

NONE = (0, 0, 0, 0, 0)
SINK = ((END, CHAMBER, END), ("down", "up"))
# Of each of these so many open stands are met.
SIX_HUNDRED = (
    ((END, CHAMBER, ("pound", 5, 2, 2, 66), CHAMBER, END), ("up", "up", "up", "down")),
    ((0, 0, 5, 0, 0), (0, 0, 2, 1, 0), (0, 1, 0, 0, 0)),
)
ONE_MORE = (
    ((END, CHAMBER, ("pound", 3, 0, 3, 1), CHAMBER, END), ("up", "down", "up", "up")),
    ((0, 1, 0, 0, 0), (0, 0, 0, 0, 0), (0, 1, 0, 1, 0)),
)
TWO_THOUSAND = (
    ((END, CHAMBER, ("pound", 9, 8, 3, 88), CHAMBER, END), ("up", "up", "down", "up")),
    ((0, 0, 0, 0, 0), (0, 0, 0, 0, 0), (0, 1, 1, 0, 0)),
)


def opened(stand):
    rows = [replaced(replaced(row, 0, 0), len(row) - 1, 0) for row in stand]
    return tuple(rows)


def open_stands(seed, many):
    return [(canal, opened(stand)) for canal, stand in random_stands(seed, many)]


def random_open_row(source, canal, stand, many):
    plain = OpenPlain(canal, stand)
    row = [any_done(source, plain, every_deed(canal)) for number in range(many)]
    # Where no deed could be done, none could be done later.
    return [deed for deed in row if deed is not None]


class IsOpenTest(unittest.TestCase):
    def assert_told(self, canal, thing, asked):
        before = copy.deepcopy(thing)
        self.assertIs(is_open(canal, thing), asked, (canal, thing))
        self.assertEqual(kinds_of(thing), kinds_of(before))

    def test_open_ones(self):
        for canal in CANALS:
            self.assert_told(canal, ((0,) * len(canal[0]),) * 3, True)
        for canal, stand in open_stands(81, 200):
            self.assert_told(canal, stand, True)

    def test_a_barge_at_an_end(self):
        for canal, stand in open_stands(82, 60):
            for row in (1, 2):
                for at in (0, len(canal[0]) - 1):
                    for many in (1, 2, 60):
                        thing = replaced(stand, row, replaced(stand[row], at, many))
                        self.assert_told(canal, thing, False)

    def test_no_stands(self):
        for row in range(3):
            for at in range(5):
                for other in [True, False, None, "0", -1, 99, (0,), [0]]:
                    self.assert_told(HILL, replaced((NONE,) * 3, row, replaced(NONE, at, other)), False)
        for thing in [[NONE] * 3, (NONE,) * 2, (NONE,) * 4, (list(NONE), NONE, NONE), (NONE, NONE, list(NONE))]:
            self.assert_told(HILL, thing, False)
        self.assert_told(HILL, ((0, 0, 4, 0, 0), NONE, NONE), False)
        self.assert_told(HILL, (NONE, (0, 2, 0, 0, 0), NONE), False)
        self.assert_told(HILL, (NONE, (0, 0, 2, 0, 0), (0, 0, 1, 0, 0)), False)

    def test_altered(self):
        source = random.Random(83)
        answers = {True: 0, False: 0}
        for canal, stand in open_stands(84, 200):
            for number in range(20):
                thing = altered(source, stand)
                asked = is_plain_stand(canal, thing) and opened(thing) == thing
                self.assert_told(canal, thing, asked)
                answers[asked] += 1
        self.assertGreater(min(answers.values()), 200)

    def test_other_things(self):
        for canal in CANALS:
            for thing in THINGS + [THINGS, tuple(THINGS), canal]:
                self.assert_told(canal, thing, False)
                self.assert_told(canal, (thing,) * 3, False)


class DoneTest(unittest.TestCase):
    def assert_done(self, canal, stand, deed):
        """Hold a deed against plain moving, and tell the name of its refusal, if it is refused."""
        before = copy.deepcopy((canal, stand, deed))
        asked = open_answer(canal, stand, deed)
        if isinstance(asked, str):
            with self.assertRaises(SummitError) as taken:
                open_done(canal, stand, deed)
            self.assertIs(type(taken.exception), getattr(errors, asked), (canal, stand, deed))
        else:
            self.assertEqual(kinds_of(open_done(canal, stand, deed)), kinds_of(asked))
            self.assertIs(is_open(canal, asked[0]), True)
        self.assertEqual(kinds_of((canal, stand, deed)), kinds_of(before))
        return asked if isinstance(asked, str) else None

    def test_by_hand(self):
        # Barges wait at both ends, however many have come.
        empty = ((0, 0, 0),) * 3
        behind = ((0, 0, 0), (0, 1, 0), (0, 0, 0))
        self.assertEqual(kinds_of(open_done(STEP, empty, ("right", 0))), kinds_of((behind, 0, 0)))
        full = ((0, 1, 0), (0, 0, 0), (0, 0, 0))
        behind = ((0, 1, 0), (0, 0, 0), (0, 1, 0))
        self.assertEqual(kinds_of(open_done(STEP, full, ("left", 1))), kinds_of((behind, 0, 0)))
        # Who comes to an end is gone, and is a gain.
        inside = ((0, 1, 0), (0, 1, 0), (0, 0, 0))
        self.assertEqual(kinds_of(open_done(STEP, inside, ("right", 1))), kinds_of((full, 0, 1)))
        inside = ((0, 0, 0), (0, 0, 0), (0, 1, 0))
        self.assertEqual(kinds_of(open_done(STEP, inside, ("left", 0))), kinds_of((empty, 0, 1)))
        # A spring's price.
        behind = ((0, 0, 1, 0, 0), NONE, NONE)
        self.assertEqual(kinds_of(open_done(HILL, (NONE,) * 3, ("feed", 2))), kinds_of((behind, 7, 0)))

    def test_refusals_by_hand(self):
        empty = ((0, 0, 0),) * 3
        for stand, deed, name in [
            (empty, ("right", 1), "NoBarge"), (empty, ("left", 0), "NoBarge"), (empty, ("left", 1), "Uneven"),
            (((0, 1, 0), (0, 0, 0), (0, 0, 0)), ("right", 0), "Uneven"), (empty, ("let", 0), "Dry"),
            (((0, 1, 0), (0, 0, 0), (0, 0, 0)), ("let", 1), "Full"), (empty, ("feed", 1), "NoSpring"),
            (((0, 0, 0), (0, 0, 0), (0, 1, 0)), ("right", 0), "NoRoom"), (empty, ("right", 2), "NoGate"),
            (((0, 0, 0), (0, 1, 0), (0, 0, 0)), ("left", 1), "NoRoom"), (empty, ("left", -1), "NoGate"),
        ]:
            self.assertEqual(self.assert_done(STEP, stand, deed), name)
        self.assertEqual(self.assert_done(HILL, (NONE, (0, 1, 0, 0, 0), NONE), ("right", 1)), "Uneven")
        self.assertEqual(self.assert_done(HILL, ((0, 1, 0, 0, 0), (0, 1, 0, 0, 0), NONE), ("right", 1)), "Shallow")

    def test_each_deed(self):
        seen = set()
        for canal, stand in open_stands(85, 150):
            far = [(word, number) for word in ("let", "feed", "right", "left") for number in (-99, 10 ** 59)]
            seen |= {self.assert_done(canal, stand, deed) for deed in every_deed(canal) + far}
            asked = [deed for deed in every_deed(canal) if isinstance(open_answer(canal, stand, deed), tuple)]
            self.assertEqual(kinds_of(open_deeds(canal, stand)), kinds_of(asked))
        self.assertEqual(seen, {None, "NoGate", "Dry", "Full", "NoSpring", "NoBarge", "NoRoom", "Uneven", "Shallow"})

    def test_the_list_is_the_askers_own(self):
        first = open_deeds(HILL, (NONE,) * 3)
        self.assertEqual(first, [("feed", 2), ("right", 0), ("left", 3)])
        first.clear()
        self.assertEqual(open_deeds(HILL, (NONE,) * 3), [("feed", 2), ("right", 0), ("left", 3)])

    def test_as_with_barges_at_the_ends(self):
        for canal, stand in open_stands(86, 60):
            last = len(canal[0]) - 1
            crowd = (stand[0], replaced(stand[1], 0, 2), replaced(stand[2], last, 2))
            for deed in open_deeds(canal, stand):
                behind, price, gain = deed_done(canal, crowd, deed)
                self.assertEqual(open_done(canal, stand, deed)[1:], (price, gain))
                self.assertEqual(open_done(canal, stand, deed)[0], (behind[0],) + opened(behind)[1:])

    def test_from_the_other_side(self):
        for canal, stand in open_stands(87, 60):
            other = (turned_canal(canal), turned_stand(stand))
            turned = [turned_deed(canal, deed) for deed in open_deeds(canal, stand)]
            self.assertEqual(sorted(turned), sorted(open_deeds(*other)))
            for deed in open_deeds(canal, stand):
                behind, price, gain = open_done(canal, stand, deed)
                self.assertEqual(open_done(*other, turned_deed(canal, deed)), (turned_stand(behind), price, gain))


class RowTest(unittest.TestCase):
    def assert_row(self, canal, stand, row):
        before = copy.deepcopy((canal, stand, row))
        plain = OpenPlain(canal, stand)
        for deed in row:
            plain.do(deed)
        self.assertEqual(kinds_of(open_row(canal, stand, row)), kinds_of((plain.stand(), plain.price, plain.gain)))
        self.assertEqual(kinds_of((canal, stand, row)), kinds_of(before))

    def assert_falls(self, canal, stand, row, at):
        before = copy.deepcopy((canal, stand, row))
        with self.assertRaises(Falls) as taken:
            open_row(canal, stand, row)
        self.assertEqual(kinds_of(taken.exception.at), kinds_of(at))
        self.assertEqual(kinds_of((canal, stand, row)), kinds_of(before))

    def test_by_hand(self):
        empty = ((0, 0, 0),) * 3
        row = [("right", 0), ("let", 1), ("right", 1), ("left", 1), ("let", 0), ("left", 0)]
        self.assertEqual(kinds_of(open_row(STEP, empty, row)), kinds_of((empty, 0, 2)))
        self.assertEqual(kinds_of(open_row(STEP, empty, row * 100)), kinds_of((empty, 0, 200)))
        self.assertEqual(kinds_of(open_row(STEP, empty, [])), kinds_of((empty, 0, 0)))
        self.assert_falls(STEP, empty, row[1:], 1)
        self.assert_falls(STEP, empty, row + row[3:], 6)
        self.assert_falls(STEP, empty, [("let", 9)], 0)

    def test_at_random(self):
        source = random.Random(88)
        for canal, stand in open_stands(89, 120):
            row = random_open_row(source, canal, stand, 50)
            self.assert_row(canal, stand, row)
            for deed in [("let", -1), ("feed", 0), ("left", 99)]:
                at = source.randrange(len(row) + 1)
                self.assert_falls(canal, stand, row[:at] + [deed] + row[at:], at)

    def test_long_ones(self):
        source = random.Random(90)
        for canal in (HILL, STEP, STAIR, RIDGE):
            stand = ((0,) * len(canal[0]),) * 3
            row = random_open_row(source, canal, stand, 6000)
            self.assertEqual(len(row), 6000)
            self.assert_row(canal, stand, row)
            self.assertGreaterEqual(open_row(canal, stand, row)[2], 1000 if canal == STEP else 0)
            self.assert_falls(canal, stand, row[:-1] + [("let", -1), row[-1]], 5999)


class OpenMetTest(ToldTest):
    met = staticmethod(open_met)
    answer = staticmethod(open_answer)

    def test_by_hand(self):
        # The full chamber stays full, and barges go through it one by one.
        full = ((0, 1, 0), (0, 0, 0), (0, 0, 0))
        right = ((0, 1, 0), (0, 1, 0), (0, 0, 0))
        left = ((0, 1, 0), (0, 0, 0), (0, 1, 0))
        told = open_met(SINK, full)
        self.assertEqual(kinds_of(told[0]), kinds_of((full, None, None)))
        self.assertEqual(sorted(told[1:]), sorted([(right, 0, ("right", 0)), (left, 0, ("left", 1))]))
        self.assert_too_many(SINK, full, 2)
        self.assert_too_many(SINK, full, 1)
        self.assertEqual(open_met(SINK, full, 3), told)

    def test_the_limit_of_one(self):
        canal = ((END, CHAMBER, CHAMBER, END), ("up", "down", "down"))
        self.assert_too_many(canal, ((0, 0, 0, 0),) * 3, 1)
        # Both chambers have the water of the ends, and barges that hold one another.
        canal = ((END, CHAMBER, CHAMBER, END), ("down", "down", "up"))
        stand = ((0, 1, 1, 0), (0, 1, 0, 0), (0, 0, 1, 0))
        self.assertEqual(kinds_of(open_met(canal, stand, 1)), kinds_of([(stand, None, None)]))

    def test_just_as_many_as_the_limits(self):
        for (canal, stand), many in ((SIX_HUNDRED, 600), (ONE_MORE, 601), (TWO_THOUSAND, 2000)):
            self.assertEqual(len(open_met(canal, stand, 2000)), many)
            self.assert_met(canal, stand)

    def test_the_limit_left_out(self):
        self.assertEqual(len(open_met(*SIX_HUNDRED)), 600)
        self.assert_too_many(*ONE_MORE)
        self.assertEqual(inspect.signature(open_met).parameters["limit"].default, 600)

    def test_at_random(self):
        asked = 0
        for canal, stand in small_stands(91, 150, places=6):
            stand = opened(stand)
            if search(canal, stand, 150, open_answer) is None:
                self.assert_too_many(canal, stand, 150)
            else:
                self.assert_met(canal, stand)
                asked += 1
        self.assertGreater(asked, 50)

    def test_the_list_is_the_askers_own(self):
        for canal, stand in (SIX_HUNDRED, (STEP, ((0, 0, 0),) * 3)):
            self.assert_own(canal, stand)


if __name__ == "__main__":
    unittest.main()
