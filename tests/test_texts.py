"""Promise [16]: texts; [2] and [3] where they hold for them."""

import itertools
import random
import re
from math import gcd

from tests.helper import GREAT, PotTest, all_contents, nested, no_lists, wrong_contents, wrong_rows
from topups.errors import InvalidContent, InvalidRow, InvalidText
from topups.histories import history_of
from topups.texts import read_content, read_history, read_row, write_content, write_history, write_row
from topups.topping import topped_row

NUMBER = re.compile("0|[1-9][0-9]{0,29}")
LIQUID = re.compile("[0-7]")
MOST = 10 ** 30 - 1

CONTENTS = [
    [1], [1, 0], [0, 1], [1, 1], [10, 1], [100, 7, 0], [0] * 7 + [1], [1] * 8, [GREAT, GREAT + 1], [MOST, 1],
    [MOST, MOST - 1, 0, 0, 0, 0, 0, MOST], [10 ** 29, 0, 1], [0, 20, 0, 30, 0, 7],
]
ROWS = [[], [0], [7], [0, 0], [7, 0, 3], [1, 2, 3, 4, 5, 6, 7, 0], [0] * 60, [7] * 59, [at % 8 for at in range(60)]]
WORDS = [
    "", "0", "1", "2", "6", "7", "8", "9", "10", "07", "00", "01", "007", "-", "--", "-1", "-0", "+1", "+", "1.0",
    "1e1", "0x1", "1_0", "a", "ok", "1,", ",", "[1]", "\n", "1\n", "\n1", "1\n2", str(MOST), str(MOST + 1), "0" * 31,
    "9" * 31, "1" + "0" * 29, "1" + "0" * 30, "0" + "1" * 29, "-" + "1" * 29, "1" * 4000, "none", "?", "'1'", "(", "0b1",
]


def fits_content(words):
    return len(words) <= 8 and all(NUMBER.fullmatch(word) for word in words)


def fits_row(words):
    return words == ["-"] or len(words) <= 60 and all(LIQUID.fullmatch(word) for word in words)


def fits_history(words):
    return len(words) <= 61 and all(LIQUID.fullmatch(word) for word in words)


def place_of(fits, words):
    """The number of the first word that cannot stand there, or the number of words if all can."""
    return next((at for at in range(len(words)) if not fits(words[:at + 1])), len(words))


class TextsTest(PotTest):
    def assert_no_text(self, read, text, place):
        for args, named in (((text,), {}), ((), {"text": text})):
            with self.subTest(read=read.__name__, text=text):
                with self.assertRaises(InvalidText) as caught:
                    read(*args, **named)
                self.assertIs(type(caught.exception), InvalidText)
                self.assert_same(caught.exception.place, place)

    def check_content(self, text):
        words = text.split(" ")
        place = place_of(fits_content, words)
        if place < len(words) or gcd(*[int(word) for word in words]) != 1:
            self.assert_no_text(read_content, text, place)
        else:
            self.assert_gives(read_content, {"text": text}, [int(word) for word in words])
            self.assert_gives(write_content, {"content": [int(word) for word in words]}, text)

    def check_row(self, text):
        words = text.split(" ")
        place = place_of(fits_row, words)
        if place < len(words):
            self.assert_no_text(read_row, text, place)
        else:
            row = [] if text == "-" else [int(word) for word in words]
            self.assert_gives(read_row, {"text": text}, row)
            self.assert_gives(write_row, {"row": row}, text)

    def check_history(self, text):
        words = text.split(" ")
        place = place_of(fits_history, words)
        if place < len(words):
            self.assert_no_text(read_history, text, place)
        else:
            history = (int(words[0]), [int(word) for word in words[1:]])
            self.assert_gives(read_history, {"text": text}, history)
            self.assert_gives(write_history, {"history": history}, text)

    def check_all(self, text):
        self.check_content(text)
        self.check_row(text)
        self.check_history(text)

    def test_there_and_back(self):
        for content in CONTENTS + all_contents(2, 12) + all_contents(4, 4):
            text = " ".join(map(str, content))
            self.assert_gives(write_content, {"content": content}, text)
            self.assert_gives(read_content, {"text": text}, content)
        for row in ROWS + [list(row) for row in itertools.product(range(8), repeat=3)]:
            text = " ".join(map(str, row)) or "-"
            self.assert_gives(write_row, {"row": row}, text)
            self.assert_gives(read_row, {"text": text}, row)
            for start in (0, 5, 7):
                text = " ".join(map(str, [start] + row))
                self.assert_gives(write_history, {"history": (start, row)}, text)
                self.assert_gives(read_history, {"text": text}, (start, row))

    def test_told_texts(self):
        self.assert_same(write_content([10, 0, 7]), "10 0 7")
        self.assert_same(read_content("10 0 7"), [10, 0, 7])
        self.assert_same(write_row([]), "-")
        self.assert_same(read_row("-"), [])
        self.assert_same(write_row([7, 0]), "7 0")
        self.assert_same(write_history((3, [])), "3")
        self.assert_same(read_history("3"), (3, []))
        self.assert_same(write_history((3, [0, 3])), "3 0 3")
        self.assert_same(read_history("3 0 3"), (3, [0, 3]))

    def test_told_places(self):
        for text, place in [
            ("", 0), (" ", 0), (" 1", 0), ("1 ", 1), ("1  2", 1), ("1 -2", 1), ("+1", 0), ("01", 0), ("1 00", 1),
            ("2", 1), ("0", 1), ("0 0", 2), ("2 4 6", 3), ("9" * 31, 0), ("1 " + "9" * 31, 1), ("1 1 1 1 1 1 1 1 1", 8),
            ("-", 0), ("1 1 1 1 1 1 1 1 x", 8), ("1 1 x 1 1 1 1 1 1", 2), ("1\n2", 0), ("1 2\n", 1), ("\n", 0),
            ("2 2 2 2 2 2 2 2", 8), ("2 2 2 2 2 2 2 2 1", 8), ("2 4 x", 2),
        ]:
            self.assert_no_text(read_content, text, place)
        for text, place in [
            ("", 0), ("- 1", 1), ("- -", 1), ("- ", 1), (" -", 0), ("0 -", 1), ("--", 0), ("8", 0), ("1 8", 1),
            ("1 10", 1), ("00", 0), ("0 ", 1), ("0  0", 1), ("-1", 0), (" ".join("0" * 61), 60),
            (" ".join("0" * 62), 60), (" ".join("0" * 59) + " 8 0", 59), ("9" * 31, 0), ("-\n", 0), ("0\n", 0),
        ]:
            self.assert_no_text(read_row, text, place)
        for text, place in [
            ("", 0), ("-", 0), ("1 -", 1), ("8", 0), ("0 8", 1), (" ".join("0" * 62), 61), (" ".join("0" * 63), 61),
            ("1 ", 1), ("01", 0), (" 1", 0),
        ]:
            self.assert_no_text(read_history, text, place)
        self.assert_same(read_row(" ".join("0" * 60)), [0] * 60)
        self.assert_same(read_history(" ".join("0" * 61)), (0, [0] * 60))
        self.assert_same(read_content("2 2 2 2 2 2 2 1"), [2, 2, 2, 2, 2, 2, 2, 1])

    def test_all_texts_of_few_words(self):
        for word in WORDS:
            self.check_all(word)
        for words in itertools.product(WORDS, repeat=2):
            self.check_all(" ".join(words))
        for words in itertools.product(["", "0", "1", "2", "8", "-", "-1", "01"], repeat=4):
            self.check_all(" ".join(words))

    def test_many_words(self):
        chance = random.Random(16)
        for length in [*range(1, 12), 59, 60, 61, 62, 63, 200]:
            for _ in range(20):
                words = [chance.choice("01234567") for _ in range(length)]
                self.check_all(" ".join(words))
                words[chance.randrange(length)] = chance.choice(WORDS)
                self.check_all(" ".join(words))
                words[chance.randrange(length)] = chance.choice(WORDS)
                self.check_all(" ".join(words))

    def test_short_strings(self):
        for length in range(6):
            for signs in itertools.product(" 018-", repeat=length):
                self.check_all("".join(signs))

    def test_wrong_inputs(self):
        self.assert_wrong_inputs(write_content, {"content": [1]}, {"content": (InvalidContent, wrong_contents())})
        # What is written for longer rows is free.
        rows = [row for row in wrong_rows(8) if not isinstance(row, list) or len(row) <= 60]
        rows += [[0] * 61 + [8], [8] + [0] * 61, [[0] * 61], nested(18)]
        for row in ([], [0]):
            self.assert_wrong_inputs(write_row, {"row": row}, {"row": (InvalidRow, rows)})
        self.assertGreater(len(rows), len(no_lists()) + 20)

    def test_longer_values_are_written(self):
        self.assertIsInstance(write_content([10 ** 40, 1]), str)
        self.assertIsInstance(write_row([0] * 61), str)
        content = topped_row(topped_row([1, 0], (1, 2), [1, 0] * 30), (1, 2), [1, 0] * 30)
        self.assertIsInstance(write_history(history_of(content, (1, 2))), str)
