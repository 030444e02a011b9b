"""Jams: promises 15 to 17, and of promise 3 that of each stand a row or a least jam is told, never both."""

import copy
import functools
import inspect
import random
import unittest

from summitwater.canals import turned_canal
from summitwater.deeds import turned_deed
from summitwater.errors import TooMany
from summitwater.jams import jam, shows_jam, shows_never
from summitwater.rows import row_done
from summitwater.stands import is_through, turned_stand
from tests.plain import all_through, barges, brings_through, is_plain_jam, is_plain_never, less, search
from tests.samples import CHAMBER, END, HILL, STEP, THINGS, altered, kinds_of, random_stands, replaced, small_stands
from tests.test_met import ONE_MORE, SIX_HUNDRED, TWO_THOUSAND

# Two chambers: a right barge in the first and a left one in the second hold one another.
CHAIN = ((END, CHAMBER, CHAMBER, END), ("up", "up", "up"))
ZEROS = (0, 0, 0, 0)
FACING = (ZEROS, (0, 1, 0, 0), (0, 0, 1, 0))
# Two that wait, and those that are through, besides.
CROWD = (ZEROS, (3, 1, 0, 5), (2, 0, 1, 4))
# A dry summit without a spring: no barge comes over it.
DRY_HILL = ((END, CHAMBER, ("pound", 3, 1, 2, None), CHAMBER, END), ("up", "up", "down", "down"))
NONE = (0, 0, 0, 0, 0)
STUCK = (NONE, (1, 0, 0, 0, 0), NONE)
# The summit has water for one barge alone, so that two hold one another.
FOR_ONE = ((0, 0, 3, 0, 0), (2, 0, 0, 0, 0), NONE)


@functools.lru_cache(maxsize=None)
def samples(seed, many, most):
    """Triples of a canal, a stand and its plain search, of at most so many stands met."""
    triples = []
    for canal, stand in small_stands(seed, many, places=7):
        found = search(canal, stand, most)
        if found is not None:
            triples.append((canal, stand, found))
    return triples


def never_free(found):
    return not any(all_through(one) for one in found)


@functools.lru_cache(maxsize=None)
def jams():
    """Triples of a canal, a stand that is a jam, and what is told of it."""
    told = [(CHAIN, FACING), (CHAIN, CROWD), (DRY_HILL, STUCK), (DRY_HILL, FOR_ONE)]
    told += [(canal, stand) for canal, stand, found in samples(71, 300, 100) if never_free(found)][:60]
    return [(canal, stand, jam(canal, stand)) for canal, stand in told]


class ShowsNeverTest(unittest.TestCase):
    def assert_shown(self, canal, stand, thing, asked):
        before = repr(thing)
        self.assertIs(shows_never(canal, stand, thing), asked, (canal, stand, thing))
        self.assertEqual(repr(thing), before)

    def test_by_hand(self):
        levels = [(0, first, second, 0) for first in (0, 1) for second in (0, 1)]
        stands = [(row, (0, 1, 0, 0), (0, 0, 1, 0)) for row in levels]
        self.assert_shown(CHAIN, FACING, stands, True)
        self.assert_shown(CHAIN, FACING, stands[::-1], True)
        for at in range(4):
            self.assert_shown(CHAIN, FACING, stands[:at] + stands[at + 1:], False)
            self.assert_shown(CHAIN, FACING, stands + [stands[at]], False)
            self.assert_shown(CHAIN, stands[at], stands, True)
        self.assert_shown(CHAIN, FACING, tuple(stands), False)
        self.assert_shown(CHAIN, FACING, [list(one) for one in stands], False)
        self.assert_shown(CHAIN, FACING, [tuple(map(list, one)) for one in stands], False)
        truths = [(row, (False, True, False, False), rest) for row, first, rest in stands]
        self.assert_shown(CHAIN, FACING, truths, False)
        # The stand itself is none of them, though they stay among themselves.
        self.assert_shown(CHAIN, CROWD, stands, False)
        self.assert_shown(CHAIN, FACING, [], False)

    def test_good_lists_in_any_order(self):
        source = random.Random(72)
        asked = 0
        for canal, stand, found in samples(71, 300, 100):
            if never_free(found):
                stands = list(found)
                for number in range(3):
                    source.shuffle(stands)
                    self.assert_shown(canal, stand, stands, True)
                asked += 1
        self.assertGreater(asked, 60)

    def test_where_all_are_through_at_one_of_them(self):
        for canal, stand, found in samples(73, 120, 60):
            if not never_free(found):
                self.assert_shown(canal, stand, list(found), False)
                self.assert_shown(canal, stand, [one for one in found if not all_through(one)], False)

    def test_more_stands_than_are_met(self):
        # Two lists that stay among themselves are one together.
        for canal, stand, found in samples(71, 300, 100):
            for word, place in barges(stand):
                other = search(canal, less(stand, word, place), 100)
                if never_free(found) and other is not None:
                    both = list(dict.fromkeys(list(other) + list(found)))
                    self.assert_shown(canal, stand, both, never_free(other))

    def test_one_left_out_doubled_or_put_in(self):
        source = random.Random(74)
        for canal, stand, told in jams():
            stands = told[2]
            kept = told[1]
            at = source.randrange(len(stands))
            self.assert_shown(canal, kept, stands, True)
            rest = stands[:at] + stands[at + 1:]
            self.assert_shown(canal, kept, rest, is_plain_never(canal, kept, rest))
            self.assert_shown(canal, kept, stands[:at] + stands[at:at + 1] + stands[at:], False)
            self.assert_shown(canal, kept, [one for one in stands if one != kept], False)
            for other in THINGS + [NONE, ((0,) * 9,) * 3, list(kept), kept[:2], kept + (NONE,), [kept]]:
                self.assert_shown(canal, kept, stands + [other], False)

    def test_altered(self):
        source = random.Random(75)
        answers = {True: 0, False: 0}
        for canal, stand, told in jams():
            for number in range(25):
                thing = altered(source, told[2])
                asked = is_plain_never(canal, told[1], thing)
                self.assert_shown(canal, told[1], thing, asked)
                answers[asked] += 1
        self.assertGreater(answers[False], 700)
        self.assertGreater(answers[True], 10)

    def test_other_things(self):
        for canal, stand in [(CHAIN, FACING), (DRY_HILL, STUCK), (HILL, (NONE,) * 3), (STEP, ((0, 0, 0),) * 3)]:
            for thing in THINGS + [THINGS, tuple(THINGS), stand, [stand, THINGS], [[stand]], [THINGS] * 300, canal]:
                self.assert_shown(canal, stand, thing, False)
                self.assert_shown(canal, stand, [thing], False)

    def test_long_lists(self):
        # The last one's step leads to a stand that is none of them.
        spring = ("pound", 9, 0, 4, 0)
        places = (END, CHAMBER, spring, CHAMBER, spring, CHAMBER, ("pound", 1, 1, 1, None), CHAMBER, END)
        canal = (places, ("up",) * 6 + ("down",) * 2)
        stand = ((0,) * 9, (1, 0, 0, 0, 0, 0, 0, 0, 0), (0,) * 9)
        found = list(search(canal, stand, 10 ** 4))
        self.assertGreater(len(found), 1000)
        self.assert_shown(canal, stand, found, True)
        self.assert_shown(canal, stand, found[:-1], False)
        self.assert_shown(canal, stand, found + found[-1:], False)


class JamTest(unittest.TestCase):
    def assert_free(self, canal, stand, told):
        self.assertEqual(kinds_of(told[0]), kinds_of("free"))
        self.assertEqual(len(told), 2)
        self.assertIs(type(told[1]), list)
        self.assertLessEqual(len(told[1]), 6000)
        self.assertIs(is_through(canal, row_done(canal, stand, told[1])[0]), True)
        self.assertTrue(brings_through(canal, stand, told[1]))

    def assert_right(self, canal, stand, told):
        """Hold what is told against its promise, and tell whether it is a jam."""
        self.assertIs(type(told), tuple)
        if told[0] == "free":
            self.assert_free(canal, stand, told)
            self.assertIs(shows_jam(canal, stand, told), False)
        else:
            self.assertTrue(is_plain_jam(canal, stand, told), (canal, stand, told))
            self.assertIs(shows_jam(canal, stand, told), True)
            self.assertIs(shows_never(canal, told[1], told[2]), True)
        return told[0] == "jam"

    def test_two_that_hold_one_another(self):
        told = jam(CHAIN, FACING)
        self.assertEqual(kinds_of(told[:2]), kinds_of(("jam", FACING)))
        self.assertEqual(len(told[2]), 4)
        self.assertEqual([row[:2] for row in told[3]], [("right", 1), ("left", 2)])
        self.assert_right(CHAIN, FACING, told)

    def test_barges_to_be_taken_off(self):
        told = jam(CHAIN, CROWD)
        self.assertEqual(told[1], FACING)
        self.assert_right(CHAIN, CROWD, told)
        # Which two of three hold one another is free.
        three = (ZEROS, (0, 1, 0, 0), (0, 0, 1, 1))
        self.assertEqual(jam(CHAIN, three)[1], FACING)
        # All sixty barges.
        sixty = (ZEROS, (28, 1, 0, 0), (0, 0, 1, 30))
        self.assertEqual(jam(CHAIN, sixty)[1], FACING)
        self.assert_right(CHAIN, sixty, jam(CHAIN, sixty))

    def test_one_alone(self):
        told = jam(DRY_HILL, STUCK)
        self.assertEqual(told[1], STUCK)
        self.assertEqual(told[3], [("right", 0, [])])
        self.assert_right(DRY_HILL, STUCK, told)
        five = (NONE, (5, 0, 0, 0, 0), NONE)
        self.assertEqual(jam(DRY_HILL, five)[1], STUCK)

    def test_several_of_one_word_and_place(self):
        told = jam(DRY_HILL, FOR_ONE)
        self.assertEqual(told[1], FOR_ONE)
        # Both are kept, and one row is told for them.
        self.assertEqual([row[:2] for row in told[3]], [("right", 0)])
        self.assert_right(DRY_HILL, FOR_ONE, told)
        many = (FOR_ONE[0], (9, 0, 0, 0, 0), NONE)
        self.assertEqual(jam(DRY_HILL, many)[1], FOR_ONE)
        lone = (FOR_ONE[0], (1, 0, 0, 0, 0), NONE)
        self.assert_free(DRY_HILL, lone, jam(DRY_HILL, lone))

    def test_all_are_through_already(self):
        for canal, stand in random_stands(76, 60):
            empty = ((0,) * len(canal[0]),) * 3
            rights = replaced(empty[0], len(canal[0]) - 1, 3)
            lefts = replaced(empty[0], 0, 2)
            if search(canal, (empty[0], rights, lefts), 600) is not None:
                self.assert_free(canal, (empty[0], rights, lefts), jam(canal, (empty[0], rights, lefts)))
                self.assert_free(canal, empty, jam(canal, empty))
        self.assertEqual(kinds_of(jam(HILL, (NONE,) * 3)), kinds_of(("free", [])))

    def test_at_random(self):
        seen = {True: 0, False: 0}
        for canal, stand, found in samples(77, 400, 150):
            before = copy.deepcopy((canal, stand))
            told = jam(canal, stand)
            self.assertEqual(kinds_of((canal, stand)), kinds_of(before))
            held = self.assert_right(canal, stand, told)
            self.assertEqual(held, never_free(found))
            seen[held] += 1
        self.assertGreater(min(seen.values()), 60)

    def test_from_the_other_side(self):
        for canal, stand, found in samples(71, 300, 100)[:60]:
            told = jam(canal, stand)
            other = jam(turned_canal(canal), turned_stand(stand))
            self.assertEqual(told[0], other[0])
            if told[0] == "free":
                row = [turned_deed(canal, deed) for deed in told[1]]
                self.assert_free(turned_canal(canal), turned_stand(stand), ("free", row))

    def test_limits(self):
        for canal, stand, found in samples(71, 300, 100):
            with self.assertRaises(TooMany):
                jam(canal, stand, len(found) - 1)
            if not never_free(found):
                self.assert_free(canal, stand, jam(canal, stand, len(found)))
            else:
                subsets = [search(canal, less(stand, *pair), len(found)) for pair in barges(stand)]
                if None not in subsets and len(barges(stand)) == sum(stand[1] + stand[2]) == 1:
                    self.assert_right(canal, stand, jam(canal, stand, len(found)))

    def test_the_limit_left_out(self):
        self.assertIn(jam(*SIX_HUNDRED)[0], ["free", "jam"])
        for canal, stand in (ONE_MORE, TWO_THOUSAND):
            with self.assertRaises(TooMany):
                jam(canal, stand)
            self.assert_right(canal, stand, jam(canal, stand, 2000))
        self.assertEqual(inspect.signature(jam).parameters["limit"].default, 600)

    def test_lists_are_the_askers_own(self):
        for canal, stand, told in jams()[:20]:
            asked = copy.deepcopy(told)
            first = jam(canal, stand)
            self.assertEqual(first, asked)
            first[2].clear()
            first[3].append(None)
            second = jam(canal, stand)
            self.assertEqual(second, asked)
            for row in second[3]:
                row[2].append(None)
            self.assertEqual(jam(canal, stand), asked)


class ShowsJamTest(unittest.TestCase):
    def assert_shown(self, canal, stand, thing, asked):
        before = repr(thing)
        self.assertIs(shows_jam(canal, stand, thing), asked, (canal, stand, thing))
        self.assertEqual(repr(thing), before)

    def test_what_is_told(self):
        for canal, stand, told in jams():
            self.assert_shown(canal, stand, told, True)
            word, kept, stands, rows = told
            self.assert_shown(canal, stand, (word, kept, stands[::-1], rows), True)
            self.assert_shown(canal, kept, told, True)

    def test_other_rows_that_are_right(self):
        # Lockfuls let through both chambers ahead of all, and what is left over behind all.
        word, kept, stands, rows = jam(CHAIN, FACING)
        for many, asked in ((20, True), (5999, True), (6000, True), (6001, False)):
            longer = []
            for way, place, deeds in rows:
                rest = many - len(deeds)
                deeds = [("let", 2), ("let", 1), ("let", 0)] * (rest // 3) + deeds
                behind = row_done(CHAIN, less(kept, way, place), deeds)[0]
                longer.append((way, place, deeds + self.some_lets(behind, rest % 3)))
                self.assertEqual(len(longer[-1][2]), many)
                self.assertTrue(brings_through(CHAIN, less(kept, way, place), longer[-1][2]))
            self.assert_shown(CHAIN, FACING, (word, kept, stands, longer), asked)

    def some_lets(self, stand, many):
        lets = []
        for number in range(many):
            for gate in range(3):
                if brings_through(CHAIN, stand, lets + [("let", gate)]):
                    lets.append(("let", gate))
                    break
        return lets

    def test_other_least_jams_that_are_right(self):
        seen = 0
        for canal, stand, told in jams():
            for word, place in barges(stand):
                part = less(stand, word, place)
                if search(canal, part, 600) is not None and jam(canal, part)[0] == "jam":
                    other = jam(canal, part)
                    self.assert_shown(canal, stand, other, True)
                    self.assert_shown(canal, part, told, is_plain_jam(canal, part, told))
                    seen += other[1] != told[1]
        self.assertGreater(seen, 3)

    def test_no_least_jam(self):
        # The whole is a jam and its stands show it, but it isn't least: no row frees the others.
        for canal, stand, told in jams():
            if told[1] != stand:
                stands = list(search(canal, stand, 600))
                rows = [(word, place, []) for word, place in barges(stand)]
                self.assert_shown(canal, stand, ("jam", stand, stands, rows), False)
                self.assert_shown(canal, stand, ("jam", stand, stands, told[3]), False)
                self.assert_shown(canal, stand, ("jam", stand, stands, []), False)

    def test_kept_that_comes_not_of_the_stand(self):
        told = jam(CHAIN, FACING)
        wet = ((0, 1, 0, 0), FACING[1], FACING[2])
        for stand in [(ZEROS, (0, 1, 0, 0), ZEROS), (ZEROS, ZEROS, (0, 0, 1, 0)), wet, (ZEROS, FACING[2], FACING[1])]:
            self.assert_shown(CHAIN, stand, told, False)
        self.assert_shown(CHAIN, CROWD, told, True)
        # Its own paper is right, but of other levels.
        self.assert_shown(CHAIN, wet, jam(CHAIN, wet), True)
        self.assert_shown(CHAIN, FACING, jam(CHAIN, wet), False)

    def test_each_part_changed(self):
        for canal, stand, (word, kept, stands, rows) in jams():
            for thing in [
                ("free", kept, stands, rows), ("Jam", kept, stands, rows), (None, kept, stands, rows),
                (kept, stands, rows), (word, kept, stands), (word, kept, stands, rows, rows),
                [word, kept, stands, rows], (word, list(kept), stands, rows), (word, kept, tuple(stands), rows),
                (word, kept, stands, tuple(rows)), (word, kept, rows, stands), (word, kept, stands + stands[:1], rows),
                (word, kept, stands, rows + rows[:1]), (word, kept, stands, rows[1:]), (word, kept, [], rows),
                (word, kept, stands, [list(row) for row in rows]),
                (word, kept, stands, [row[:2] + (tuple(row[2]),) for row in rows]),
                (word, kept, stands, [row[:2] + (row[2] + [("let", -1)],) for row in rows]),
                (word, kept, stands, [row[:2] + ([("up", 0)] + row[2],) for row in rows]),
                (word, kept, stands, [row[:2] + (row[2] + [["let", 0]],) for row in rows]),
                (word, kept, stands, [row[:2] for row in rows]),
                (word, kept, stands, [row + (None,) for row in rows]),
            ]:
                self.assert_shown(canal, stand, thing, False)
            if len(rows) > 1:
                self.assert_shown(canal, stand, (word, kept, stands, rows[::-1]), False)

    def test_truths_for_numbers(self):
        word, kept, stands, rows = jam(CHAIN, FACING)
        self.assertEqual(rows[0][1], 1)
        self.assert_shown(CHAIN, FACING, (word, kept, stands, [("right", True, rows[0][2]), rows[1]]), False)
        truths = [
            (way, place, [(deed, bool(gate)) if gate < 2 else (deed, gate) for deed, gate in deeds])
            for way, place, deeds in rows
        ]
        self.assert_shown(CHAIN, FACING, (word, kept, stands, truths), False)
        self.assert_shown(CHAIN, FACING, (word, (ZEROS, (0, True, 0, 0), kept[2]), stands, rows), False)

    def test_rows_that_bring_not_all_through(self):
        for canal, stand, (word, kept, stands, rows) in jams():
            for at, (way, place, deeds) in enumerate(rows):
                for number in range(len(deeds)):
                    cut = rows[:at] + [(way, place, deeds[:number] + deeds[number + 1:])] + rows[at + 1:]
                    asked = brings_through(canal, less(kept, way, place), cut[at][2])
                    self.assert_shown(canal, stand, (word, kept, stands, cut), asked)
                if deeds:
                    cut = rows[:at] + [(way, place, deeds[:-1])] + rows[at + 1:]
                    self.assert_shown(canal, stand, (word, kept, stands, cut), False)

    def test_altered(self):
        source = random.Random(78)
        answers = {True: 0, False: 0}
        for canal, stand, told in jams():
            for number in range(60):
                thing = altered(source, told)
                asked = is_plain_jam(canal, stand, thing)
                self.assert_shown(canal, stand, thing, asked)
                answers[asked] += 1
        self.assertGreater(answers[False], 3000)
        self.assertGreater(answers[True], 20)

    def test_other_things(self):
        for canal, stand, told in jams()[:12]:
            for thing in THINGS + [THINGS, tuple(THINGS), list(told), (told,), ("free", [])]:
                self.assert_shown(canal, stand, thing, False)
                self.assert_shown(canal, stand, ("jam", thing, told[2], told[3]), False)
                self.assert_shown(canal, stand, ("jam", told[1], thing, told[3]), False)
                self.assert_shown(canal, stand, ("jam", told[1], told[2], thing), False)
                for at in range(len(told[3])):
                    rows = list(told[3])
                    rows[at] = thing
                    self.assert_shown(canal, stand, ("jam", told[1], told[2], rows), False)

    def test_of_stands_that_are_free(self):
        for canal, stand, found in samples(73, 120, 60):
            if not never_free(found):
                rows = [(word, place, []) for word, place in barges(stand)]
                self.assert_shown(canal, stand, ("jam", stand, list(found), rows), False)


if __name__ == "__main__":
    unittest.main()
