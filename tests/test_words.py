"""Canals written and read: promise 5."""

import functools
import itertools
import random
import unittest

from summitwater.canals import is_canal
from summitwater.errors import NoText
from summitwater.words import canal_text, read_canal
from tests.samples import CANALS, CHAMBER, END, HILL, LONG, STEP, VALLEY, kinds_of, random_canals

POUND_WORDS = ["pound", "3", "1", "2", "7"]


@functools.lru_cache(maxsize=None)
def beginnings():
    """Each row of places' words with which some canal begins: listed from the canals, whole."""
    found = set()
    for many in range(1, 12):
        for inner in itertools.product(["chamber", "pound"], repeat=many):
            row = ("end",) + inner + ("end",)
            if all("chamber" in pair for pair in zip(row, row[1:])):
                found.update(row[:length] for length in range(len(row) + 1))
    return found


def number_words(least, most):
    return [str(number) for number in range(least, most + 1)]


def first_wrong(words):
    """The number of the first wrong word, or how many there are, or None where the words write a canal."""
    sorts = ()
    expects = ["place"]
    brim = None
    for at, word in enumerate(words):
        whole = len(sorts) > 1 and sorts[-1] == "end"
        if whole:
            return at
        if "place" in expects and sorts + (word,) in beginnings():
            sorts += (word,)
            expects = ["brim"] if word == "pound" else ["gate"]
        elif "brim" in expects and word in number_words(1, 9):
            brim = int(word)
            expects = ["deep"]
        elif "deep" in expects and word in number_words(0, brim):
            expects = ["room"]
        elif "room" in expects and word in number_words(1, 4):
            expects = ["price", "gate"]
        elif "price" in expects and word in number_words(0, 99):
            expects = ["gate"]
        elif "gate" in expects and word in ("up", "down"):
            expects = ["place"]
        else:
            return at
    return None if len(sorts) > 1 and sorts[-1] == "end" else len(words)


class WrittenTest(unittest.TestCase):
    def test_by_hand(self):
        self.assertEqual(canal_text(STEP), "end up chamber up end")
        self.assertEqual(canal_text(HILL), "end up chamber up pound 3 1 2 7 down chamber down end")
        self.assertEqual(
            canal_text(VALLEY),
            "end down chamber down pound 2 2 1 up chamber up pound 9 0 4 0 up chamber down end",
        )

    def test_what_is_written_is_read(self):
        for canal in CANALS + random_canals(11, 300):
            text = canal_text(canal)
            self.assertIsInstance(text, str)
            self.assertEqual(kinds_of(read_canal(text)), kinds_of(canal))

    def test_every_pound(self):
        for brim in range(1, 10):
            for deep in range(brim + 1):
                for room in range(1, 5):
                    for price in [None] + list(range(100)):
                        numbers = f"{brim} {deep} {room}" if price is None else f"{brim} {deep} {room} {price}"
                        text = f"end up chamber up pound {numbers} down chamber down end"
                        pound = ("pound", brim, deep, room, price)
                        canal = ((END, CHAMBER, pound, CHAMBER, END), ("up", "up", "down", "down"))
                        self.assertEqual(canal_text(canal), text)
                        self.assertEqual(kinds_of(read_canal(text)), kinds_of(canal))

    def test_what_is_read_is_written(self):
        for canal in random_canals(12, 200):
            text = canal_text(canal)
            self.assertEqual(canal_text(read_canal(text)), text)


class RefusedTest(unittest.TestCase):
    def assert_refused(self, text, at):
        with self.assertRaises(NoText) as taken:
            read_canal(text)
        self.assertEqual(kinds_of(taken.exception.at), kinds_of(at), repr(text))

    def assert_answer(self, words):
        """The words are read or refused as the slow reckoning above tells."""
        text = " ".join(words)
        at = first_wrong(text.split(" "))
        if at is None:
            canal = read_canal(text)
            self.assertIs(is_canal(canal), True, text)
            self.assertEqual(canal_text(canal), text)
        else:
            self.assert_refused(text, at)

    def test_without_signs_and_blanks(self):
        self.assert_refused("", 0)
        self.assert_refused(" ", 0)
        self.assert_refused("  ", 0)
        self.assert_refused(" end up chamber up end", 0)
        self.assert_refused("end up chamber up end ", 5)
        self.assert_refused("end  up chamber up end", 1)
        self.assert_refused("end up  chamber up end", 2)
        self.assert_refused("end up chamber up  end", 4)
        self.assert_refused("end up chamber up pound 3 1 2  down chamber down end", 8)
        self.assert_refused("end up chamber up pound 3 1  2 down chamber down end", 7)
        self.assert_refused("end up ", 2)

    def test_too_few_words(self):
        words = canal_text(HILL).split(" ")
        for many in range(1, len(words)):
            self.assert_refused(" ".join(words[:many]), many)
        self.assert_refused("end", 1)

    def test_a_word_too_many(self):
        for canal in CANALS:
            text = canal_text(canal)
            many = len(text.split(" "))
            for word in ["up", "down", "end", "chamber", "pound", "0", "1", "x", ""]:
                self.assert_refused(text + " " + word, many)
        self.assert_refused("end up chamber up end up chamber up end", 5)

    def test_other_words(self):
        self.assert_refused("chamber up chamber up end", 0)
        self.assert_refused("pound 3 1 2 up chamber up end", 0)
        self.assert_refused("End up chamber up end", 0)
        self.assert_refused("up", 0)
        self.assert_refused("end Up chamber up end", 1)
        self.assert_refused("end chamber up end", 1)
        self.assert_refused("end 3 chamber up end", 1)
        self.assert_refused("end up lock up end", 2)
        self.assert_refused("end up end", 2)
        self.assert_refused("end up pound 3 1 2 up chamber up end", 2)
        self.assert_refused("end up chamber 1 end", 3)
        self.assert_refused("end up chamber up up end", 4)

    def test_tabs_and_line_ends(self):
        self.assert_refused("end\tup\tchamber\tup\tend", 0)
        self.assert_refused("end up chamber up end\n", 4)
        self.assert_refused("\nend up chamber up end", 0)
        self.assert_refused("end up\n chamber up end", 1)
        self.assert_refused("end up chamber\t up end", 2)
        for number in ["3\n", "\n3", "3\t", "\t3", "3\n1"]:
            self.assert_refused(f"end up chamber up pound {number} 1 2 down chamber down end", 5)
            self.assert_refused(f"end up chamber up pound 5 {number} 2 down chamber down end", 6)
            self.assert_refused(f"end up chamber up pound 5 1 {number} down chamber down end", 7)
            self.assert_refused(f"end up chamber up pound 5 1 1 {number} down chamber down end", 8)

    def test_numbers(self):
        begin = "end up chamber up pound "
        behind = " down chamber down end"
        odd = ["", "-1", "+1", "01", "00", "-0", "1.0", "1_0", "x", "up", "end", "1e0", "0x1", "one", str(10 ** 60)]
        for number in ["0", "10", "11", "99"] + odd:
            self.assert_refused(begin + number + " 0 2 7" + behind, 5)
        for number in ["5", "6", "9", "10", "04"] + odd:
            self.assert_refused(begin + "4 " + number + " 2 7" + behind, 6)
        for number in ["0", "5", "9", "10", "04"] + odd:
            self.assert_refused(begin + "4 4 " + number + " 7" + behind, 7)
        for number in ["100", "101", "999", "099", "007"] + [word for word in odd if word != "up"]:
            self.assert_refused(begin + "4 4 4 " + number + behind, 8)
        self.assert_refused(begin + "4 4 4 7 7" + behind, 9)
        self.assert_refused(begin + "4 4 4 0 0" + behind, 9)
        self.assert_refused(begin + "4 4" + behind, 7)

    def test_a_deep_beyond_its_own_brim(self):
        for brim in range(1, 10):
            for deep in range(brim + 1, 12):
                self.assert_refused(f"end up chamber up pound {brim} {deep} 1 down chamber down end", 6)

    def test_words_of_other_figures(self):
        # Signs that Python's own reading of numbers would take.
        for number in ["\u0663", "\u00b2", "\uff13"]:
            self.assert_refused(f"end up chamber up pound {number} 1 2 down chamber down end", 5)

    def test_pounds_beside_pounds_and_ends(self):
        self.assert_refused("end up chamber up pound 3 1 2 down pound 3 1 2 down chamber down end", 9)
        self.assert_refused("end up chamber up pound 3 1 2 7 down pound 3 1 2 down chamber down end", 10)
        self.assert_refused("end up chamber up pound 3 1 2 7 down end", 10)
        self.assert_refused("end up chamber up pound 3 1 2 down end", 9)
        self.assert_refused("end up pound", 2)

    def test_where_no_room_is_left(self):
        eleven = "end" + " up chamber" * 11
        # The thirteenth place must be the end.
        self.assertEqual(len(read_canal(eleven + " up end")[0]), 13)
        self.assert_refused(eleven + " up chamber up end", 24)
        self.assert_refused(eleven + " up chamber", 24)
        self.assert_refused(eleven + " up pound 1 1 1", 24)
        self.assert_refused(eleven + " up", 24)
        # Behind a pound at the twelfth place there is no room for a chamber and an end.
        ten = "end" + " up chamber" * 10
        self.assert_refused(ten + " up pound 1 1 1 up chamber up end", 22)
        self.assert_refused(ten + " up pound", 22)
        self.assertEqual(len(read_canal(ten + " up chamber up end")[0]), 13)
        # At the eleventh there is just enough.
        nine = "end" + " up chamber" * 9
        self.assertEqual(len(read_canal(nine + " up pound 1 1 1 up chamber up end")[0]), 13)
        self.assert_refused(nine + " up pound 1 1 1 up chamber up chamber", 27)
        self.assert_refused(nine + " up pound 1 1 1 up chamber up pound", 27)
        self.assert_refused("end" + " up chamber" * 300, 24)

    def test_words_struck_doubled_put_in_exchanged_cut_off(self):
        other = ["end", "chamber", "pound", "up", "down", "0", "1", "4", "5", "9", "10", "99", "100", "01", "-1", "x", ""]
        for canal in CANALS + random_canals(13, 25):
            words = canal_text(canal).split(" ")
            for at in range(len(words)):
                self.assert_answer(words[:at] + words[at + 1:])
                self.assert_answer(words[:at] + [words[at]] + words[at:])
                self.assert_answer(words[:at])
                for word in other:
                    self.assert_answer(words[:at] + [word] + words[at:])
                    self.assert_answer(words[:at] + [word] + words[at + 1:])
                if at > 0:
                    self.assert_answer(words[:at - 1] + [words[at], words[at - 1]] + words[at + 1:])

    def test_every_row_of_few_words(self):
        some = ["end", "chamber", "pound", "up", "1", "0", ""]
        for many in range(1, 6):
            for words in itertools.product(some, repeat=many):
                self.assert_answer(list(words))

    def test_rows_of_places_at_random(self):
        source = random.Random(14)
        for number in range(600):
            words = ["end"]
            for place in range(source.randint(1, 15)):
                words.append(source.choice(["up", "down"]))
                words.extend(source.choice([["chamber"], ["chamber"], ["chamber"], POUND_WORDS, POUND_WORDS[:4]]))
            self.assert_answer(words)
            self.assert_answer(words + ["up", "end"])
            self.assert_answer(words + ["up", "chamber", "up", "end"])

    def test_words_at_random(self):
        source = random.Random(15)
        words = canal_text(LONG).split(" ")
        for number in range(600):
            self.assert_answer([source.choice(words) for word in range(source.randint(1, 40))])


if __name__ == "__main__":
    unittest.main()
