"""Canals: promises 4 and 6, and of promise 2 what speaks of things."""

import copy
import itertools
import unittest

from summitwater.canals import higher, is_canal, lower, turned_canal
from tests.samples import (
    CANALS, CHAMBER, DRY_POUND, END, HILL, LONG, SPRING_POUND, STAIR, STEP, THINGS, kinds_of, random_canals, replaced,
)

GREAT = 10 ** 59


def with_pound(*numbers):
    return ((END, CHAMBER, ("pound",) + numbers, CHAMBER, END), ("up", "up", "down", "down"))


def with_places(*places):
    return (places, ("up",) * (len(places) - 1))


def listed(thing):
    """All that come of a thing by making one tuple in it a list."""
    if not isinstance(thing, tuple):
        return []
    inner = [replaced(thing, at, other) for at, part in enumerate(thing) for other in listed(part)]
    return [list(thing)] + inner


class IsCanalTest(unittest.TestCase):
    def assert_canal(self, thing):
        self.assertIs(is_canal(thing), True, thing)

    def assert_none(self, thing):
        before = copy.deepcopy(thing)
        self.assertIs(is_canal(thing), False, thing)
        self.assertEqual(kinds_of(thing), kinds_of(before))

    def test_samples(self):
        for canal in CANALS + random_canals(4, 300):
            self.assert_canal(canal)

    def test_every_number_of_places(self):
        for many in range(0, 30):
            canal = with_places(*((END,) + (CHAMBER,) * many + (END,)))
            if 3 <= many + 2 <= 13:
                self.assert_canal(canal)
            else:
                self.assert_none(canal)
        self.assert_none(((), ()))
        self.assert_none(((END,), ()))
        self.assert_none(((END, END), ("up",)))
        self.assert_none(((CHAMBER,), ()))

    def test_every_pound_within_its_bounds(self):
        for brim in range(1, 10):
            for deep in range(0, brim + 1):
                for room in range(1, 5):
                    for price in [None, 0, 1, 50, 98, 99]:
                        self.assert_canal(with_pound(brim, deep, room, price))

    def test_pounds_beyond_a_bound(self):
        for numbers in [
            (0, 0, 1, None), (10, 0, 1, None), (-1, 0, 1, None), (GREAT, 0, 1, None), (-GREAT, 0, 1, None),
            (1, -1, 1, None), (1, 2, 1, None), (9, 10, 1, None), (5, 6, 1, 3), (9, GREAT, 1, 3), (9, -GREAT, 1, 3),
            (1, 0, 0, None), (1, 0, 5, None), (1, 0, -1, 0), (1, 0, GREAT, 0), (1, 0, -GREAT, 0),
            (1, 0, 1, -1), (1, 0, 1, 100), (1, 0, 1, GREAT), (1, 0, 1, -GREAT),
        ]:
            self.assert_none(with_pound(*numbers))

    def test_a_thing_of_another_kind_for_a_number(self):
        for at in range(4):
            for other in [True, False, None, "1", "", (1,), [1], (), []]:
                numbers = replaced((1, 1, 1, 1), at, other)
                if at == 3 and other is None:
                    self.assert_canal(with_pound(*numbers))
                else:
                    self.assert_none(with_pound(*numbers))
        self.assert_none(with_pound(9, False, 4, None))
        self.assert_none(with_pound(9, 0, 4, False))

    def test_a_pound_with_a_part_too_many_or_too_few(self):
        for numbers in [(), (3,), (3, 1), (3, 1, 2), (3, 1, 2, 7, 7), (3, 1, 2, None, None)]:
            self.assert_none(with_pound(*numbers))

    def test_every_row_of_sorts_up_to_six_places(self):
        sorts = [END, CHAMBER, DRY_POUND]
        for many in range(1, 7):
            for places in itertools.product(sorts, repeat=many):
                canal = with_places(*places)
                inner = places[1:-1]
                good = many >= 3 and places[0] == END and places[-1] == END and END not in inner
                beside = [pair for pair in zip(places, places[1:]) if CHAMBER not in pair]
                self.assertIs(is_canal(canal), bool(good and not beside), canal)

    def test_pounds_beside_pounds_and_ends(self):
        self.assert_none(with_places(END, DRY_POUND, END))
        self.assert_none(with_places(END, DRY_POUND, CHAMBER, END))
        self.assert_none(with_places(END, CHAMBER, DRY_POUND, END))
        self.assert_none(with_places(END, CHAMBER, DRY_POUND, SPRING_POUND, CHAMBER, END))
        self.assert_canal(with_places(END, CHAMBER, DRY_POUND, CHAMBER, SPRING_POUND, CHAMBER, END))

    def test_ends_amid_and_none_at_an_end(self):
        self.assert_none(with_places(END, CHAMBER, END, CHAMBER, END))
        self.assert_none(with_places(CHAMBER, CHAMBER, END))
        self.assert_none(with_places(END, CHAMBER, CHAMBER, CHAMBER))
        self.assert_none(with_places(CHAMBER, CHAMBER, CHAMBER))
        self.assert_none(with_places(DRY_POUND, CHAMBER, END))
        self.assert_none(with_places(END, CHAMBER, DRY_POUND))

    def test_places_of_other_words_and_forms(self):
        for place in [
            ("lock",), ("Chamber",), ("chamber ",), ("",), (), ("chamber", "chamber"), ("chamber", None), ("chamber", 0),
            "chamber", ["chamber"], None, True, 0, (None,), (("chamber",),), ("pound",), "pound", ("gate",),
            ("Pound", 3, 1, 2, 7), ("chamber", 3, 1, 2, 7), ("end", 3, 1, 2, 7), (None, 3, 1, 2, 7),
            ["pound", 3, 1, 2, 7], (("pound", 3, 1, 2, 7),),
        ]:
            self.assert_none(with_places(END, CHAMBER, place, CHAMBER, END))
            self.assert_none(with_places(END, place, END))
        for end in [("End",), "end", ["end"], (), ("end", "end"), ("end", None), None, 0]:
            self.assert_none(with_places(end, CHAMBER, END))
            self.assert_none(with_places(END, CHAMBER, end))

    def test_gates(self):
        for gates in itertools.product(["up", "down"], repeat=4):
            self.assert_canal((HILL[0], gates))
        for canal in CANALS:
            places, gates = canal
            self.assert_none((places, gates[1:]))
            self.assert_none((places, gates + ("up",)))
            self.assert_none((places, ()))
            for at in range(len(gates)):
                for other in ["Up", "", "level", "updown", None, True, 0, 1, ("up",), ["up"]]:
                    self.assert_none((places, replaced(gates, at, other)))

    def test_a_list_anywhere(self):
        for canal in CANALS:
            for other in listed(canal):
                self.assert_none(other)

    def test_not_just_two(self):
        places, gates = STEP
        for thing in [(places,), (gates,), (places, gates, ()), (places, gates, None), (gates, places), (STEP,), STEP * 2]:
            self.assert_none(thing)

    def test_texts_for_places_or_gates(self):
        self.assert_none(("ece", ("up", "up")))
        self.assert_none((STEP[0], "up"))
        self.assert_none((STEP[0], "upup"))
        self.assert_none(("end", "up"))

    def test_other_things(self):
        for thing in THINGS + [tuple(THINGS), list(THINGS), (STAIR, STAIR), (None, STAIR[1]), (STAIR[0], None)]:
            self.assert_none(thing)
        for first in THINGS:
            for second in THINGS:
                self.assert_none((first, second))

    def test_a_great_thing(self):
        self.assert_none((STEP[0], ("up",) * 299990))
        self.assert_none(((CHAMBER,) * 299990, ("up",) * 2))


class GatesTest(unittest.TestCase):
    def test_hill(self):
        self.assertEqual([higher(HILL, gate) for gate in range(4)], [1, 2, 2, 3])
        self.assertEqual([lower(HILL, gate) for gate in range(4)], [0, 1, 3, 4])

    def test_every_gate(self):
        for canal in CANALS + random_canals(5, 100):
            for gate, word in enumerate(canal[1]):
                both = (lower(canal, gate), higher(canal, gate))
                self.assertEqual(both, (gate, gate + 1) if word == "up" else (gate + 1, gate))
                self.assertEqual(kinds_of(both), kinds_of((both[0] + 0, both[1] + 0)))


class TurnedCanalTest(unittest.TestCase):
    def test_by_hand(self):
        canal = ((END, CHAMBER, DRY_POUND, CHAMBER, CHAMBER, END), ("up", "up", "down", "up", "up"))
        turned = ((END, CHAMBER, CHAMBER, DRY_POUND, CHAMBER, END), ("down", "down", "up", "down", "down"))
        self.assertEqual(kinds_of(turned_canal(canal)), kinds_of(turned))
        self.assertEqual(turned_canal(STEP), (STEP[0], ("down", "down")))
        self.assertEqual(turned_canal(HILL), HILL)

    def test_turned_again(self):
        for canal in CANALS + random_canals(6, 200):
            turned = turned_canal(canal)
            self.assertIs(is_canal(turned), True)
            self.assertEqual(kinds_of(turned_canal(turned)), kinds_of(canal))

    def test_each_gate_has_the_same_higher_place(self):
        for canal in [LONG, STAIR] + random_canals(7, 100):
            turned = turned_canal(canal)
            last = len(canal[0]) - 1
            for gate in range(last):
                self.assertEqual(higher(turned, last - 1 - gate), last - higher(canal, gate))
                self.assertEqual(lower(turned, last - 1 - gate), last - lower(canal, gate))


if __name__ == "__main__":
    unittest.main()
