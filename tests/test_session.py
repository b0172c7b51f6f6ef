"""Promise [17]: sessions; [2], [3] and [16] where they hold for them."""

import itertools
import random
import re

from tests.helper import GREAT, Model, PotTest, pure
from topups.contents import pure_content, share_of
from topups.errors import PotError
from topups.histories import history_of
from topups.session import session
from topups.strengths import strength_of
from topups.texts import read_row, write_content, write_history, write_row
from topups.topping import topped_row

INTEGER = "(?:0|-?[1-9][0-9]{0,29})"
SHAPES = {
    "pot": f"pot {INTEGER} {INTEGER} {INTEGER} {INTEGER}", "top": f"top {INTEGER}", "pour": "pour( [^ ]+)+",
    "keep": f"keep {INTEGER} {INTEGER}", "undo": "undo", "back": f"back {INTEGER}", "content": "content",
    "share": f"share {INTEGER}", "past": "past", "history": "history", "strength": f"strength( {INTEGER})+",
}
WORDS = [
    "pot", "top", "pour", "keep", "undo", "back", "content", "share", "past", "history", "strength", "0", "1", "2", "3",
    "4", "7", "8", "9", "10", "99", "100", "101", "-1", "-0", "+1", "-", "", "01", "x", "?", "ok", "None", "POT",
    "pots", "1" * 30, "1" * 31, "-" + "1" * 30, "-" + "1" * 31, "-01", "--1", "1/2",
]


class Reference:
    """What the lines of a session must answer: by the functions, on what a model of the pot tells."""

    def __init__(self):
        self.model = None

    def answer(self, line):
        name = line.split(" ")[0]
        if name not in SHAPES or not re.fullmatch(SHAPES[name], line) or (self.model is None and name != "pot"):
            return "?"
        try:
            return getattr(self, name)(line.split(" ")[1:])
        except PotError as error:
            return type(error).__name__

    def pot(self, words):
        count, start, stays, whole = map(int, words)
        # The functions check count, start and kept share in the sequence in which the pot does.
        topped_row(pure_content(count, start), (stays, whole), [])
        self.model = Model(count, start, (stays, whole))
        return "ok"

    def pour_all(self, row):
        topped_row(self.model.content(), self.model.now[0], row)
        self.model.pour(row)
        return "ok"

    def top(self, words):
        share_of(self.model.content(), int(words[0]))
        return self.pour_all([int(words[0])])

    def pour(self, words):
        return self.pour_all(read_row(" ".join(words)))

    def keep(self, words):
        kept = (int(words[0]), int(words[1]))
        topped_row([1], kept, [])
        self.model.keep(kept)
        return "ok"

    def undo(self, words):
        if not self.model.before:
            return "NothingToUndo"
        return self.back([len(self.model.before) - 1])

    def back(self, words):
        if not 0 <= int(words[0]) <= len(self.model.before):
            return "InvalidIndex"
        self.model.undo_to(int(words[0]))
        return "ok"

    def content(self, words):
        return write_content(self.model.content())

    def share(self, words):
        return "{}/{}".format(*share_of(self.model.content(), int(words[0])))

    def past(self, words):
        return write_row([liquid for liquid, _ in self.model.now[1]])

    def history(self, words):
        history = history_of(self.model.content(), self.model.now[0])
        return "none" if history is None else write_history(history)

    def strength(self, words):
        return "{}/{}".format(*strength_of(self.model.content(), [int(word) for word in words]))


def some_line(chance, count):
    """A line that is mostly right, for a pot of so many liquids."""
    liquid = chance.randint(-1, count)
    lines = [
        f"top {liquid}", f"top {max(0, min(liquid, count - 1))}", f"top {chance.randrange(count)}", "undo",
        "pour " + (" ".join(str(chance.randrange(count)) for _ in range(chance.randrange(4))) or "-"),
        f"pour {liquid} {chance.randint(0, 9)}", f"keep {chance.randint(-1, 4)} {chance.randint(-1, 5)}", "keep 1 2",
        f"back {chance.randint(-1, 8)}", "content", f"share {liquid}", "past", "history",
        "strength " + " ".join(str(chance.randint(-9, 9)) for _ in range(count)),
        f"pot {chance.randint(-1, 9)} {chance.randint(-1, 3)} {chance.randint(-1, 3)} {chance.randint(-1, 4)}",
    ]
    return chance.choice(lines)


def spoiled(line, chance):
    """The line with one word or blank too many, too few, or another one."""
    words = line.split(" ")
    at = chance.randrange(len(words))
    kind = chance.randrange(3)
    if kind == 0:
        words[at] = chance.choice(WORDS)
    elif kind == 1:
        words.insert(at, chance.choice(WORDS))
    elif len(words) > 1:
        del words[at]
    return " ".join(words)


class SessionTest(PotTest):
    def check(self, lines):
        reference = Reference()
        expected = [reference.answer(line) for line in lines]
        answers = session("\n".join(lines)).split("\n")
        for at, answer in enumerate(expected):
            with self.subTest(lines=lines[:at + 1]):
                self.assert_same(answers[at], answer)
        self.assertEqual(len(answers), len(lines))

    def check_told(self, pairs):
        lines = [line for line, _ in pairs]
        self.assert_gives(session, {"rows": "\n".join(lines)}, "\n".join(answer for _, answer in pairs))
        self.check(lines)

    def test_told_session(self):
        self.check_told([
            ("pot 3 0 2 3", "ok"), ("content", "1 0 0"), ("past", "-"), ("history", "0"), ("share 0", "1/1"),
            ("share 2", "0/1"), ("top 1", "ok"), ("content", "2 1 0"), ("past", "1"), ("history", "0 1"),
            ("share 1", "1/3"), ("pour 2 1", "ok"), ("content", "8 13 6"), ("past", "1 2 1"), ("history", "0 1 2 1"),
            ("strength 1 2 -3", "16/27"), ("strength -1 0 0", "-8/27"), ("strength 0 0 0", "0/1"),
            ("strength 27 27 27", "27/1"), ("keep 1 2", "ok"), ("history", "none"), ("undo", "ok"),
            ("history", "0 1 2 1"), ("undo", "ok"), ("content", "2 1 0"), ("pour -", "ok"), ("past", "1"),
            ("back 3", "InvalidIndex"), ("back 2", "ok"), ("back 1", "ok"), ("back 0", "ok"), ("undo", "NothingToUndo"),
            ("content", "1 0 0"), ("pot 2 1 1 2", "ok"), ("pour 0 1", "ok"), ("content", "1 3"), ("history", "0 1 1"),
            ("undo", "ok"), ("undo", "NothingToUndo"), ("content", "0 1"),
        ])

    def test_wrong_words_behind_a_pot(self):
        for line, answer in [
            ("", "?"), (" ", "?"), ("content ", "?"), (" content", "?"), ("top  1", "?"), ("top 1 ", "?"),
            ("pour 1 ", "?"), ("pour  1", "?"), ("pour ", "?"), ("pour", "?"), ("pour - ", "?"), ("strength", "?"),
            ("strength ", "?"), ("strength 1 2  3", "?"), ("top", "?"), ("top 1 1", "?"), ("top x", "?"),
            ("top -1", "InvalidLiquid"), ("top +1", "?"), ("top 01", "?"), ("top -", "?"), ("top 3", "InvalidLiquid"),
            ("top " + "9" * 30, "InvalidLiquid"), ("top " + "9" * 31, "?"), ("pour 3", "InvalidRow"),
            ("pour 0 7", "InvalidRow"), ("pour 8", "InvalidText"), ("pour 0 8", "InvalidText"),
            ("pour - 1", "InvalidText"), ("pour 1 -", "InvalidText"), ("pour x", "InvalidText"),
            ("pour -1", "InvalidText"), ("pour 00", "InvalidText"), ("pour" + " 1" * 61, "InvalidText"),
            ("pour" + " 3" * 60, "InvalidRow"), ("keep", "?"), ("keep 1", "?"), ("keep 1 2 3", "?"), ("keep 1 x", "?"),
            ("keep -1 2", "InvalidKept"), ("keep 2 4", "InvalidKept"), ("keep 0 1", "InvalidKept"),
            ("keep 1 1", "InvalidKept"), ("keep 1 101", "InvalidKept"), ("undo 1", "?"), ("undo ", "?"), ("back", "?"),
            ("back -1", "InvalidIndex"), ("back 1 1", "?"), ("back 9", "InvalidIndex"),
            ("back " + "9" * 30, "InvalidIndex"), ("content 1", "?"), ("share", "?"), ("share 1 2", "?"),
            ("share -1", "InvalidLiquid"), ("share 3", "InvalidLiquid"), ("past 1", "?"), ("history 1", "?"),
            ("strength 1 2", "InvalidStrengths"), ("strength 1", "InvalidStrengths"),
            ("strength 1 2 3 4", "InvalidStrengths"), ("strength 1 2 x", "?"), ("strength 1 x", "?"),
            ("strength 1 2 -0", "?"), ("strength 1 2 +3", "?"), ("strength 1 2 -", "?"), ("strength 1 2 03", "?"),
            ("strength 1 2 --3", "?"), ("strength 1 2 " + "9" * 31, "?"), ("strength 1 2 -" + "9" * 31, "?"),
            ("strength" + " 1" * 9, "InvalidStrengths"), ("pot", "?"), ("pot 2 0 1", "?"), ("pot 2 0 1 2 3", "?"),
            ("pot 2 0 1 x", "?"), ("pot 2 0 1 -2", "InvalidKept"), ("pot 2 0 1 2 ", "?"),
            ("pot 0 0 1 2", "InvalidNumber"), ("pot 9 9 2 4", "InvalidNumber"), ("pot 2 2 2 4", "InvalidLiquid"),
            ("pot 2 1 2 4", "InvalidKept"), ("pot 2 1 1 " + "9" * 30, "InvalidKept"), ("pot 2 1 1 " + "9" * 31, "?"),
            ("Top 1", "?"), ("mark", "?"), ("twin", "?"), ("histories", "?"), ("top_up 1", "?"), ("undo_to 1", "?"),
            ("1", "?"), ("ok", "?"), ("?", "?"), ("-", "?"),
        ]:
            with self.subTest(line=line):
                told = ["content", "past", "history", "strength 1 2 3", "back 2"]
                start = ["pot 3 2 2 3", "pour 0 1", "keep 3 4", "top 0"]
                before = session("\n".join(start + told)).split("\n")
                found = session("\n".join(start + [line] + told)).split("\n")
                self.assert_same(found, before[:4] + [answer] + before[4:])
                self.check(start + [line] + told)

    def test_integers_below_0_are_passed_on(self):
        self.check_told([
            ("pot 3 0 2 3", "ok"), ("top -1", "InvalidLiquid"), ("keep -1 2", "InvalidKept"),
            ("back -1", "InvalidIndex"), ("share -1", "InvalidLiquid"), ("pot -1 0 1 2", "InvalidNumber"),
            ("pot 3 -1 1 2", "InvalidLiquid"), ("strength 1 0 -1", "1/1"), ("content", "1 0 0"),
            ("keep -89 -60", "InvalidKept"), ("keep 79 -8", "InvalidKept"), ("keep 1 -2", "InvalidKept"),
            ("keep -1 -2", "InvalidKept"), ("pot 3 0 2 -3", "InvalidKept"), ("pot 3 0 -2 3", "InvalidKept"),
            ("pot 3 0 -2 -3", "InvalidKept"), ("pot -3 -1 -2 -3", "InvalidNumber"), ("pot 3 -1 -2 -3", "InvalidLiquid"),
            ("top 1", "ok"), ("content", "2 1 0"), ("back -2", "InvalidIndex"), ("undo", "ok"),
            ("undo", "NothingToUndo"), ("back -1", "InvalidIndex"), ("past", "-"), ("pour -1", "InvalidText"),
            ("pour 0 -1", "InvalidText"),
        ])

    def test_before_the_first_pot_integers_below_0_are_passed_on_by_pot_lines_alone(self):
        self.check_told([
            ("top -1", "?"), ("keep -1 2", "?"), ("back -1", "?"), ("share -1", "?"), ("strength -1", "?"),
            ("pour -1", "?"), ("pot -3 0 2 3", "InvalidNumber"), ("top -1", "?"), ("pot 3 -1 2 3", "InvalidLiquid"),
            ("pot 3 0 -2 3", "InvalidKept"), ("pot 3 0 2 -3", "InvalidKept"), ("back -1", "?"), ("pot 3 0 2 3", "ok"),
            ("top -1", "InvalidLiquid"), ("back -1", "InvalidIndex"),
        ])

    def test_words_for_each_place_of_an_integer(self):
        """The place of the word is told by `{}`; behind it stands the error for an integer that is too low."""
        places = [
            ("top {}", "InvalidLiquid"), ("share {}", "InvalidLiquid"), ("back {}", "InvalidIndex"),
            ("keep {} 2", "InvalidKept"), ("keep 1 {}", "InvalidKept"), ("pot {} 0 1 2", "InvalidNumber"),
            ("pot 3 {} 1 2", "InvalidLiquid"), ("pot 3 0 {} 2", "InvalidKept"), ("pot 3 0 1 {}", "InvalidKept"),
            ("strength {}", "InvalidStrengths"), ("strength 1 2 3 {}", "InvalidStrengths"),
        ]
        low = ["-1", "-2", "-3", "-10", "-" + "1" * 30, "-" + "9" * 30]
        # A blank makes two words, of which one is no integer.
        wrong = ["-0", "--1", "-", "--", "-01", "-00", "+1", "+", "- 1", "1-", "-1-", "-x", "x", "-1.0", "-1 ",
                 "-" + "1" * 31, "-" + "9" * 31, "1" * 31, "-" + "0" * 30]
        told = ["content", "past", "history", "strength 1 2 3", "undo", "content"]
        for place, error in places:
            for word, answer in [(word, error) for word in low] + [(word, "?") for word in wrong]:
                line = place.format(word)
                with self.subTest(line=line):
                    start = ["pot 3 2 2 3", "pour 0 1"]
                    before = session("\n".join(start + told)).split("\n")
                    found = session("\n".join(start + [line] + told)).split("\n")
                    self.assert_same(found, before[:2] + [answer] + before[2:])
                    self.check(start + [line] + told)

    def test_lines_without_integers_take_none(self):
        for name in ("undo", "content", "past", "history"):
            for word in ("-1", "-0", "0", "1", "-"):
                self.check_told([("pot 3 0 2 3", "ok"), (f"{name} {word}", "?"), ("content", "1 0 0")])
        for line in ("top -1 -1", "top", "keep -1", "keep -1 -2 -3", "back -1 0", "share 0 -1", "pot -1 0 1",
                     "pot -1 0 1 2 3"):
            self.check_told([("pot 3 0 2 3", "ok"), (line, "?"), ("content", "1 0 0")])

    def test_all_pot_lines_of_few_words(self):
        words = ("0", "1", "2", "3", "-1", "-2", "-0", "x")
        lines = ["pot " + " ".join(parts) for parts in itertools.product(words, repeat=4)]
        for at in range(0, len(lines), 45):
            self.check([line for pot in lines[at:at + 45] for line in (pot, "content")])

    def test_before_the_first_pot(self):
        lines = ["top 1", "pour 1", "pour x", "pour 8", "keep 1 2", "keep 2 4", "undo", "back 0", "content", "share 0",
                 "past", "history", "strength 1", "", "x"]
        for line in lines:
            self.check_told([(line, "?")])
        wrong = [("pot 0 0 1 2", "InvalidNumber"), ("pot 2 2 1 2", "InvalidLiquid"), ("pot 2 0 2 4", "InvalidKept"),
                 ("pot 2 0 1", "?"), ("pot", "?")]
        for pairs in itertools.product(wrong, [(line, "?") for line in lines]):
            self.check_told([*pairs, ("pot 2 0 1 2", "ok"), ("content", "1 0")])
        self.check_told([("top 1", "?"), ("pot 2 0 2 4", "InvalidKept"), ("top 1", "?"), ("pot 2 0 1 2", "ok"),
                         ("top 1", "ok"), ("pot 2 0 2 4", "InvalidKept"), ("content", "1 1"), ("undo", "ok"),
                         ("undo", "NothingToUndo")])

    def test_empty_lines(self):
        self.assert_gives(session, {"rows": ""}, "?")
        self.assert_gives(session, {"rows": "\n"}, "?\n?")
        self.assert_gives(session, {"rows": "\n\n"}, "?\n?\n?")
        self.assert_gives(session, {"rows": "pot 1 0 1 2\n"}, "ok\n?")
        self.assert_gives(session, {"rows": "pot 1 0 1 2\n\ncontent"}, "ok\n?\n1")
        self.assert_gives(session, {"rows": " "}, "?")

    def test_great_numbers(self):
        self.check_told([
            ("pot 1 0 1 2", "ok"), (f"strength {GREAT}", f"{GREAT}/1"), (f"strength -{GREAT}", f"-{GREAT}/1"),
        ])
        lines = ["pot 8 0 99 100"] + ["pour" + " 1 2 3 4 5 6 7 0 1 2" * 6]
        lines += ["content", "history", "past"] + [f"share {liquid}" for liquid in range(8)] + ["strength" + " 1" * 8]
        self.check(lines)
        content = session("\n".join(lines)).split("\n")[2]
        self.assertEqual(content, write_content(topped_row(pure(8, 0), (99, 100), [1, 2, 3, 4, 5, 6, 7, 0, 1, 2] * 6)))

    def test_histories_that_are_longer_than_rows(self):
        lines = ["pot 2 0 1 4", "pour" + " 1" * 60, "keep 1 2", "history"]
        answers = session("\n".join(lines)).split("\n")
        self.assertEqual(answers[:3], ["ok"] * 3)
        self.assertEqual(len(answers), 4)

    def test_any_sessions(self):
        chance = random.Random(17)
        for _ in range(150):
            count = chance.randint(1, 8)
            lines = [f"pot {count} {chance.randrange(count)} {chance.randint(1, 2)} 3"] if chance.random() < 0.9 else []
            while len(lines) < chance.choice((5, 30, 100)):
                lines.append(some_line(chance, count))
                if chance.random() < 0.3:
                    lines[-1] = spoiled(lines[-1], chance)
            self.check(lines[:100])

    def test_all_lines_of_few_words(self):
        for length in (1, 2):
            for words in itertools.product(WORDS, repeat=length):
                self.check([" ".join(words), "pot 3 0 1 2", "top 1", " ".join(words), "content", "past", "undo"])
        names = ("top", "pour", "keep", "back", "share", "strength", "undo", "content")
        for words in itertools.product(names, WORDS[11:], WORDS[11:]):
            self.check(["pot 2 0 1 2", "top 1", " ".join(words), "content", "past", "undo"])

    def test_answers_do_not_depend_on_earlier_sessions(self):
        self.assert_same(session("pot 2 0 1 2\ntop 1"), "ok\nok")
        self.assert_same(session("content"), "?")
