"""Stands and deeds written, and stands read: promise 31."""

import itertools
import random
import unittest

from summitwater.errors import NoText
from summitwater.stands import is_stand
from summitwater.texts import deed_text, read_stand, stand_text
from tests.plain import every_deed
from tests.samples import CANALS, HILL, LONG, STEP, VALLEY, kinds_of, random_stands

ZERO = "0:0:0"


def place_words(place):
    """Each word of a place by itself, with how many barges it writes."""
    kind = place[0]
    levels = {"end": [0], "chamber": [0, 1]}.get(kind) or range(place[1] + 1)
    room = {"end": 60, "chamber": 1}.get(kind) or place[3]
    return {
        f"{level}:{right}:{left}": right + left
        for level in levels
        for right in range(room + 1)
        for left in range(room + 1 - right)
    }


def first_wrong(words, texts):
    """The number of the first wrong word, or how many there are, or None where the words write a stand."""
    barges = 0
    for at, text in enumerate(texts):
        if at == len(words) or text not in words[at]:
            return at
        barges += words[at][text]
        if barges > 60:
            return at
    return None if len(texts) == len(words) else len(texts)


class WrittenTest(unittest.TestCase):
    def test_stands_by_hand(self):
        self.assertEqual(stand_text(((0, 0, 0),) * 3), "0:0:0 0:0:0 0:0:0")
        self.assertEqual(stand_text(((0, 1, 0), (60, 0, 0), (0, 0, 0))), "0:60:0 1:0:0 0:0:0")
        self.assertEqual(stand_text(((0, 1, 3, 0, 0), (5, 1, 0, 0, 9), (0, 0, 2, 1, 10))),
                         "0:5:0 1:1:0 3:0:2 0:0:1 0:9:10")

    def test_every_stand_is_written(self):
        for canal, stand in random_stands(281, 300):
            before = repr(stand)
            words = stand_text(stand).split(" ")
            self.assertEqual(len(words), len(canal[0]))
            for at, word in enumerate(words):
                self.assertEqual(word, f"{stand[0][at]}:{stand[1][at]}:{stand[2][at]}")
            self.assertEqual(repr(stand), before)

    def test_deeds(self):
        self.assertEqual(deed_text(("let", 0)), "let 0")
        self.assertEqual(deed_text(("feed", -1)), "feed -1")
        self.assertEqual(deed_text(("right", 12)), "right 12")
        self.assertEqual(deed_text(("left", 10 ** 59)), "left 1" + "0" * 59)
        self.assertEqual(deed_text(("left", -(10 ** 59))), "left -1" + "0" * 59)
        for canal in CANALS:
            for word, number in every_deed(canal):
                self.assertEqual(deed_text((word, number)), word + " " + str(number))


class ReadTest(unittest.TestCase):
    def assert_refused(self, canal, text, at):
        with self.assertRaises(NoText) as taken:
            read_stand(canal, text)
        self.assertIs(type(taken.exception), NoText)
        self.assertEqual(kinds_of(taken.exception.at), kinds_of(at), repr(text))

    def assert_read(self, canal, text, stand):
        before = repr(canal)
        self.assertEqual(kinds_of(read_stand(canal, text)), kinds_of(stand))
        self.assertEqual(repr(canal), before)

    def assert_answer(self, canal, words, parts):
        """Some words are read or refused as the slow reckoning above tells."""
        text = " ".join(parts)
        at = first_wrong(words, text.split(" "))
        if at is None:
            stand = read_stand(canal, text)
            self.assertIs(is_stand(canal, stand), True)
            self.assertEqual(stand_text(stand), text)
        else:
            self.assert_refused(canal, text, at)
        return at

    def test_what_is_written_is_read(self):
        for canal, stand in random_stands(282, 400):
            self.assert_read(canal, stand_text(stand), stand)

    def test_every_word_of_a_place(self):
        for canal in CANALS:
            places = canal[0]
            for at, place in enumerate(places):
                words = place_words(place)
                for level in range(11):
                    for right in list(range(7)) + [59, 60, 61]:
                        for left in list(range(7)) + [59, 60, 61]:
                            word = f"{level}:{right}:{left}"
                            text = " ".join([ZERO] * at + [word] + [ZERO] * (len(places) - at - 1))
                            if word in words:
                                self.assertEqual(stand_text(read_stand(canal, text)), text)
                            else:
                                self.assert_refused(canal, text, at)

    def test_words_that_write_nothing(self):
        for word in [
            "", "0", "0:0", "0:0:0:0", "0:0:", ":0:0", "0::0", "::", ":::", "00:0:0", "0:00:0", "0:0:00", "01:0:0",
            "0:01:0", "0:0:01", "+0:0:0", "-0:0:0", "0:-1:0", "0:0:-1", "0:+1:0", "0:0:+1", "0;0;0", "0,0,0", "0.0.0",
            "a:0:0", "0:a:0", "0:0:a", "O:0:0", "0:0:0.", ".0:0:0", "0:0:0\n", "\n0:0:0", "0:0:0\t", "\t0:0:0",
            "0:\n0:0", "0:0\t:0", "0:0:0x", "0x0:0:0", "0:1_0:0", "0:1e1:0", "stand", "-", "0:0:0,", "~:0:0",
            "0:" + "1" * 17 + ":0", "0:0:" + "9" * 3000, "9" * 3000 + ":0:0", "0:" + "0" * 3000 + ":0",
            "\u0660:0:0", "\u00b2:0:0", "0:\uff11:0",
        ]:
            for canal in (STEP, HILL, VALLEY):
                many = len(canal[0])
                for at in range(many):
                    self.assert_refused(canal, " ".join([ZERO] * at + [word] + [ZERO] * (many - at - 1)), at)
                    # The first such word counts, whatever stands behind it.
                    self.assert_refused(canal, " ".join([ZERO] * at + [word, "x"]), at)
                    self.assert_refused(canal, " ".join([ZERO] * at + [word]), at)
                self.assert_refused(canal, " ".join([ZERO] * many + [word]), many)

    def test_without_signs_and_blanks(self):
        for canal in CANALS:
            many = len(canal[0])
            row = " ".join([ZERO] * many)
            self.assert_refused(canal, "", 0)
            self.assert_refused(canal, " ", 0)
            self.assert_refused(canal, "  ", 0)
            self.assert_refused(canal, " " + row, 0)
            self.assert_refused(canal, row + " ", many)
            for at in range(1, many):
                self.assert_refused(canal, " ".join([ZERO] * at + [""] + [ZERO] * (many - at)), at)

    def test_too_few_and_too_many(self):
        for canal in CANALS:
            many = len(canal[0])
            for number in range(1, many):
                self.assert_refused(canal, " ".join([ZERO] * number), number)
            self.assert_read(canal, " ".join([ZERO] * many), ((0,) * many,) * 3)
            for number in (1, 2, 50):
                self.assert_refused(canal, " ".join([ZERO] * (many + number)), many)

    def test_sixty_barges(self):
        self.assert_read(STEP, "0:60:0 0:0:0 0:0:0", ((0, 0, 0), (60, 0, 0), (0, 0, 0)))
        self.assert_read(STEP, "0:30:29 0:0:1 0:0:0", ((0, 0, 0), (30, 0, 0), (29, 1, 0)))
        self.assert_read(STEP, "0:0:20 1:0:0 0:20:20", ((0, 1, 0), (0, 0, 20), (20, 0, 20)))
        self.assert_refused(STEP, "0:61:0 0:0:0 0:0:0", 0)
        self.assert_refused(STEP, "0:0:61 0:0:0 0:0:0", 0)
        self.assert_refused(STEP, "0:30:31 0:0:0 0:0:0", 0)
        self.assert_refused(STEP, "0:60:0 0:1:0 0:0:0", 1)
        self.assert_refused(STEP, "0:60:0 0:0:1 0:0:0", 1)
        self.assert_refused(STEP, "0:60:0 0:0:0 0:1:0", 2)
        self.assert_refused(STEP, "0:60:0 0:0:0 0:0:1", 2)
        self.assert_refused(STEP, "0:59:0 0:1:0 0:0:1", 2)
        # With the word that is one too many, though words lack or are too many behind it.
        self.assert_refused(STEP, "0:60:0 0:1:0", 1)
        self.assert_refused(STEP, "0:60:0 0:1:0 0:0:0 0:0:0", 1)
        self.assert_refused(STEP, "0:60:0 0:0:0 0:0:0 0:1:0", 3)
        self.assert_refused(STEP, "0:60:0 0:0:0", 2)

    def test_words_exchanged_struck_and_put_in(self):
        source = random.Random(283)
        answers = {True: 0, False: 0}
        for canal, stand in random_stands(284, 60):
            words = [place_words(place) for place in canal[0]]
            parts = stand_text(stand).split(" ")
            some = ["0:0:0", "1:0:0", "1:1:0", "0:0:1", "2:2:1", "9:4:0", "0:60:0", "0:0:31", "", "0:0", "01:0:0", "x"]
            for at in range(len(parts)):
                for word in some:
                    answers[self.assert_answer(canal, words, parts[:at] + [word] + parts[at + 1:]) is None] += 1
                    self.assert_answer(canal, words, parts[:at] + [word] + parts[at:])
                self.assert_answer(canal, words, parts[:at] + parts[at + 1:])
                self.assert_answer(canal, words, parts[:at])
                source.shuffle(parts)
                self.assert_answer(canal, words, parts)
        self.assertGreater(min(answers.values()), 200)

    def test_every_row_of_few_words(self):
        words = [place_words(place) for place in STEP[0]]
        some = ["0:0:0", "1:0:0", "0:1:0", "1:0:1", "0:30:0", "0:0:30", "0:31:0", "2:0:0", "0:0", ""]
        for many in range(1, 5):
            for parts in itertools.product(some, repeat=many):
                self.assert_answer(STEP, words, list(parts))

    def test_the_canal_counts(self):
        # A word may be right at one canal's place and wrong at another's.
        self.assert_read(VALLEY, "0:0:0 0:0:0 2:1:0 0:0:0 9:2:2 1:0:0 0:0:0",
                         ((0, 0, 2, 0, 9, 1, 0), (0, 0, 1, 0, 2, 0, 0), (0, 0, 0, 0, 2, 0, 0)))
        self.assert_refused(VALLEY, "0:0:0 0:0:0 3:1:0 0:0:0 9:2:2 1:0:0 0:0:0", 2)
        self.assert_refused(VALLEY, "0:0:0 0:0:0 2:1:1 0:0:0 9:2:2 1:0:0 0:0:0", 2)
        self.assert_refused(VALLEY, "0:0:0 0:0:0 2:1:0 0:0:0 9:2:3 1:0:0 0:0:0", 4)
        self.assert_refused(VALLEY, "0:0:0 2:0:0 2:1:0 0:0:0 9:2:2 1:0:0 0:0:0", 1)
        self.assert_refused(VALLEY, "1:0:0 2:0:0 2:1:0 0:0:0 9:2:2 1:0:0 0:0:0", 0)
        self.assert_refused(LONG, "0:0:0 0:0:0 10:0:0", 2)
        self.assert_refused(LONG, "0:0:0 0:0:0 9:0:0", 3)


if __name__ == "__main__":
    unittest.main()
