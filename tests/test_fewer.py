"""A barge less: promise 13, and of promise 3 that a row goes on for fewer barges."""

import copy
import unittest

from summitwater.errors import NoBarge
from summitwater.fewer import barge_less, row_less
from summitwater.rows import row_done, water
from summitwater.stands import is_stand
from tests.plain import Plain
from tests.samples import HILL, STEP, kinds_of, random_stands, replaced
from tests.test_rows import OVER, START, long_rows, rows

NONE = (0, 0, 0, 0, 0)


def plainly_less(canal, stand, row, word, place):
    """The row without the marked barge's deeds, and the stand to which the whole row leads without it."""
    plain = Plain(canal, stand, last=(word, place))
    kept = [deed for deed in row if plain.do(deed) is not plain.marked or plain.marked is None]
    return kept, plain.stand(without=plain.marked)


def barges(stand):
    """Each word and place, and how many such barges there are."""
    words = {"right": stand[1], "left": stand[2]}
    return [(word, place, many) for word in ("right", "left") for place, many in enumerate(words[word])]


class BargeLessTest(unittest.TestCase):
    def test_by_hand(self):
        stand = ((0, 1, 2, 0, 0), (3, 1, 1, 0, 0), (0, 0, 1, 0, 9))
        less = ((0, 1, 2, 0, 0), (2, 1, 1, 0, 0), (0, 0, 1, 0, 9))
        self.assertEqual(kinds_of(barge_less(stand, "right", 0)), kinds_of(less))
        less = ((0, 1, 2, 0, 0), (3, 1, 1, 0, 0), (0, 0, 0, 0, 9))
        self.assertEqual(kinds_of(barge_less(stand, "left", 2)), kinds_of(less))

    def test_no_barge(self):
        stand = (NONE, (1, 0, 0, 0, 0), (0, 0, 0, 0, 1))
        for place in range(1, 5):
            with self.assertRaises(NoBarge):
                barge_less(stand, "right", place)
        for place in range(4):
            with self.assertRaises(NoBarge):
                barge_less(stand, "left", place)

    def test_each_word_and_place(self):
        for canal, stand in random_stands(51, 200):
            before = copy.deepcopy(stand)
            for word, place, many in barges(stand):
                if many == 0:
                    with self.assertRaises(NoBarge):
                        barge_less(stand, word, place)
                else:
                    row = 1 if word == "right" else 2
                    less = replaced(stand, row, replaced(stand[row], place, many - 1))
                    self.assertEqual(kinds_of(barge_less(stand, word, place)), kinds_of(less))
                    self.assertIs(is_stand(canal, less), True)
            self.assertEqual(kinds_of(stand), kinds_of(before))


class RowLessTest(unittest.TestCase):
    def test_the_only_one(self):
        self.assertEqual(kinds_of(row_less(HILL, START, OVER, "right", 0)), kinds_of([
            ("feed", 2), ("feed", 2), ("let", 1), ("feed", 2), ("let", 2), ("let", 3), ("let", 0),
        ]))

    def test_it_goes_last(self):
        # Of two barges one goes: it isn't the one taken off.
        two = (NONE, (2, 0, 0, 0, 0), NONE)
        self.assertEqual(row_less(HILL, two, OVER, "right", 0), OVER)
        # Both go: the second one is.
        zeros = (0, 0, 0)
        row = [("right", 0), ("let", 1), ("right", 1), ("let", 0), ("right", 0), ("let", 1), ("right", 1)]
        less = [("right", 0), ("let", 1), ("right", 1), ("let", 0), ("let", 1)]
        self.assertEqual(row_less(STEP, (zeros, (2, 0, 0), zeros), row, "right", 0), less)

    def test_it_is_last_at_each_place_it_comes_to(self):
        # A barge waits in the pound when the one taken off comes: the one that waited goes on.
        stand = ((0, 1, 3, 1, 0), (0, 1, 1, 0, 0), NONE)
        row = [("right", 1), ("right", 2)]
        self.assertEqual(row_less(HILL, stand, row, "right", 1), [("right", 2)])
        # One comes to the pound behind it, and goes on ahead of it.
        stand = ((0, 1, 3, 1, 0), (1, 0, 1, 0, 0), NONE)
        row = [("let", 0), ("right", 0), ("let", 1), ("right", 1), ("right", 2)]
        self.assertEqual(row_less(HILL, stand, row, "right", 2), row)
        # Both go on: the last one is it.
        row += [("let", 3), ("right", 3), ("let", 2), ("right", 2)]
        self.assertEqual(row_less(HILL, stand, row, "right", 2), row[:-1])

    def test_barges_of_the_other_word_are_not_counted(self):
        stand = ((0, 1, 3, 1, 0), (0, 0, 1, 0, 0), (0, 0, 1, 0, 0))
        row = [("left", 1), ("right", 2)]
        self.assertEqual(row_less(HILL, stand, row, "right", 2), [("left", 1)])
        self.assertEqual(row_less(HILL, stand, row, "left", 2), [("right", 2)])

    def test_the_row_of_none(self):
        for canal, stand in random_stands(52, 100):
            for word, place, many in barges(stand):
                if many == 0:
                    with self.assertRaises(NoBarge):
                        row_less(canal, stand, [], word, place)
                else:
                    self.assertEqual(kinds_of(row_less(canal, stand, [], word, place)), kinds_of([]))

    def assert_less(self, canal, stand, row, word, place):
        before = copy.deepcopy((canal, stand, row))
        kept = row_less(canal, stand, row, word, place)
        asked, behind = plainly_less(canal, stand, row, word, place)
        self.assertEqual(kinds_of(kept), kinds_of(asked))
        less = barge_less(stand, word, place)
        whole = row_done(canal, stand, row)
        led = row_done(canal, less, kept)
        self.assertEqual(kinds_of(led[0]), kinds_of(behind))
        self.assertEqual(led[1], whole[1])
        self.assertEqual(water(canal, less, kept), water(canal, stand, row))
        self.assertEqual(sum(map(sum, led[0][1:])) + 1, sum(map(sum, whole[0][1:])))
        kept.append(("let", 0))
        kept[:1] = []
        self.assertEqual(kinds_of((canal, stand, row)), kinds_of(before))
        self.assertEqual(row_less(canal, stand, row, word, place), asked)

    def test_each_barge_of_rows_at_random(self):
        moved = 0
        for canal, stand, row in rows(53, 250, 60):
            for word, place, many in barges(stand):
                if many == 0:
                    with self.assertRaises(NoBarge):
                        row_less(canal, stand, row, word, place)
                else:
                    self.assert_less(canal, stand, row, word, place)
                    moved += len(row) - len(row_less(canal, stand, row, word, place))
        self.assertGreater(moved, 300)

    def test_long_rows(self):
        for canal, stand, row in long_rows():
            for word, place, many in barges(stand):
                if many > 0:
                    self.assert_less(canal, stand, row, word, place)


if __name__ == "__main__":
    unittest.main()
