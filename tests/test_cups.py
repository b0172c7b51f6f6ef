"""Promise [14]: cups; [2] and [3] where they hold for them."""

import itertools
import random
from fractions import Fraction
from math import gcd

from tests.helper import (
    GREAT, MOST_BOTTOM, PotTest, content_of, pair, pure, shares_of, wrong_contents, wrong_cups, wrong_deeds, wrong_pots,
    wrong_shares_to_reach,
)
from topups.cups import carried, cups_row, fewest_cups, to_and_fro
from topups.errors import InvalidContent, InvalidCup, InvalidDeeds, InvalidFraction, InvalidPots

CUPS = [(1, 1), (1, 2), (2, 3), (1, 3), (7, 10), (1, 100), (99, 100), (37, 99)]
CONTENTS = {
    1: [[1]],
    2: [[1, 0], [0, 1], [1, 1], [2, 3], [GREAT, GREAT + 1], [1, 10 ** 30 - 2]],
    3: [[1, 0, 0], [0, 0, 1], [1, 2, 4], [0, 3, 5], [10 ** 30 - 1, 0, 8], [3 ** 200, 2 ** 300, 5]],
    5: [[0, 0, 1, 0, 0], [1, 1, 1, 1, 1], [6, 10, 15, 0, 1]],
    8: [[1] * 8, [0] * 7 + [1], [1] + [0] * 7, [0, 1, 0, 2, 0, 4, 0, 9]],
}
FRACTIONS = [(0, 1), (1, 1), (1, 2), (1, 3), (1, 10), (3, 100), (MOST_BOTTOM - 1, MOST_BOTTOM)]


def shares_behind(first, second, cup):
    """By shares: what is poured to, and what of the mixture is poured back."""
    part = Fraction(*cup)
    stirred = [(other + part * share) / (1 + part) for share, other in zip(first, second)]
    return [share - part * share + part * mixed for share, mixed in zip(first, stirred)], stirred


def both_behind(first, second, cup):
    one, other = shares_behind(shares_of(first), shares_of(second), cup)
    return (content_of(one), content_of(other))


def wrong_two(liquids):
    """What is no content of so many liquids."""
    return wrong_contents() + [pure(count, 0) for count in range(1, 9) if count != liquids]


class ToAndFroTest(PotTest):
    def test_against_shares(self):
        for contents in CONTENTS.values():
            for first, second in itertools.product(contents, repeat=2):
                for cup in CUPS:
                    with self.subTest(first=first, second=second, cup=cup):
                        self.assert_same(to_and_fro(first, second, cup), both_behind(first, second, cup))

    def test_told_cups(self):
        self.assert_same(to_and_fro([1, 0], [0, 1], (1, 1)), ([1, 1], [1, 1]))
        self.assert_same(to_and_fro([1, 0], [0, 1], (1, 2)), ([2, 1], [1, 2]))
        self.assert_same(to_and_fro([1, 0], [0, 1], (1, 100)), ([100, 1], [1, 100]))
        self.assert_same(to_and_fro([1, 2], [1, 0], (1, 2)), ([5, 4], [7, 2]))
        self.assert_same(to_and_fro([1, 2], [1, 2], (1, 2)), ([1, 2], [1, 2]))
        self.assert_same(to_and_fro([1], [1], (3, 7)), ([1], [1]))

    def test_lists_and_arguments(self):
        for contents in CONTENTS.values():
            for first, second in itertools.product(contents[:3], repeat=2):
                given = {"first": first, "second": second, "cup": (2, 3)}
                self.assert_gives(to_and_fro, given, both_behind(first, second, (2, 3)))
        content = [1, 2]
        one, other = to_and_fro(content, content, (1, 2))
        self.assert_new_lists(one, other, [content])

    def test_wrong_inputs(self):
        for first, second in (([1, 2], [0, 1]), ([1], [1]), ([1] * 8, [0] * 7 + [1])):
            wrong = {
                "first": (InvalidContent, wrong_contents()),
                "second": (InvalidContent, wrong_two(len(first))),
                "cup": (InvalidCup, wrong_cups()),
            }
            self.assert_wrong_inputs(to_and_fro, {"first": first, "second": second, "cup": (1, 2)}, wrong)

    def test_another_length_goes_ahead_of_the_cup(self):
        for cup in ((1, 2), (2, 4), None):
            self.assert_fails(InvalidContent, to_and_fro, [1, 0], [1, 0, 0], cup)
            self.assert_fails(InvalidContent, fewest_cups, [1, 0], [1], cup, None)

    def test_all_small_cups(self):
        for poured, whole in itertools.product(range(-1, 104), repeat=2):
            if 1 <= poured <= whole <= 100 and gcd(poured, whole) == 1:
                self.assert_same(carried((poured, whole)), (poured, poured + whole))
            else:
                self.assert_fails(InvalidCup, carried, (poured, whole))


class CupsRowTest(PotTest):
    def check(self, pots, deeds):
        shares = [shares_of(content) for content in pots]
        for one, other, cup in deeds:
            shares[one], shares[other] = shares_behind(shares[one], shares[other], cup)
        with self.subTest(pots=pots, deeds=deeds):
            self.assert_gives(cups_row, {"pots": pots, "deeds": deeds}, [content_of(each) for each in shares])

    def test_against_shares(self):
        chance = random.Random(14)
        for count, contents in CONTENTS.items():
            for many in range(2, 9):
                for number in (0, 1, 2, 5, 11):
                    pots = [chance.choice(contents) for _ in range(many)]
                    deeds = [(*chance.sample(range(many), 2), chance.choice(CUPS)) for _ in range(number)]
                    self.check(pots, deeds)

    def test_60_deeds(self):
        chance = random.Random(15)
        for count, many in ((1, 2), (2, 2), (3, 3), (8, 8)):
            pots = [chance.choice(CONTENTS[count]) for _ in range(many)]
            self.check(pots, [(*chance.sample(range(many), 2), chance.choice(CUPS)) for _ in range(60)])
        self.check([[1, 0], [0, 1]], [(0, 1, (1, 2))] * 60)

    def test_is_a_row_of_to_and_fro(self):
        pots = [[1, 0, 0], [0, 1, 0], [0, 0, 1]]
        first, second = to_and_fro(pots[0], pots[1], (1, 2))
        third, again = to_and_fro(pots[2], first, (2, 3))
        self.assert_same(cups_row(pots, [(0, 1, (1, 2)), (2, 0, (2, 3))]), [again, second, third])
        self.assert_same(cups_row(pots, []), [[1, 0, 0], [0, 1, 0], [0, 0, 1]])
        self.assert_same(cups_row([[1, 0], [0, 1]], [(1, 0, (1, 1))]), [[1, 1], [1, 1]])

    def test_lists(self):
        content = [1, 2]
        pots = [content, content]
        self.assert_new_lists(cups_row(pots, []), cups_row(pots, [(0, 1, (1, 2))]), [pots])
        self.assertEqual(pots, [[1, 2], [1, 2]])

    def test_wrong_inputs(self):
        for pots in ([[1, 0], [0, 1]], [[1]] * 8, [[1, 2, 4], [0, 0, 1], [1, 1, 1]]):
            wrong = {"pots": (InvalidPots, wrong_pots()), "deeds": (InvalidDeeds, wrong_deeds(len(pots)))}
            self.assert_wrong_inputs(cups_row, {"pots": pots, "deeds": [(0, 1, (1, 1))]}, wrong)


class CarriedTest(PotTest):
    def test_against_to_and_fro(self):
        for cup in CUPS:
            second = to_and_fro([1, 0], [0, 1], cup)[1]
            self.assert_gives(carried, {"cup": cup}, pair(shares_of(second)[0]))
        self.assert_same(carried((1, 1)), (1, 2))
        self.assert_same(carried((1, 2)), (1, 3))
        self.assert_same(carried((99, 100)), (99, 199))

    def test_wrong_inputs(self):
        self.assert_wrong_inputs(carried, {"cup": (1, 1)}, {"cup": (InvalidCup, wrong_cups())})


class FewestCupsTest(PotTest):
    def check(self, first, second, cup, fraction):
        shares = shares_of(first), shares_of(second)
        expected = None
        if fraction != (0, 1) or cup == (1, 1) or first == second:
            expected = 0
            while max(abs(one - other) for one, other in zip(*shares)) > Fraction(*fraction):
                shares = shares_behind(*shares, cup)
                expected += 1
        with self.subTest(first=first, second=second, cup=cup, fraction=fraction):
            self.assert_same(fewest_cups(first, second, cup, fraction), expected)

    def test_against_going_on_step_by_step(self):
        for contents in CONTENTS.values():
            for first, second in itertools.product(contents, repeat=2):
                for cup in CUPS:
                    for fraction in FRACTIONS if cup != (1, 100) else FRACTIONS[:3]:
                        self.check(first, second, cup, fraction)

    def test_many_cups(self):
        for fraction in FRACTIONS + [(1, MOST_BOTTOM)]:
            self.check([1, 0], [0, 1], (1, 100), fraction)
            self.check([1, 2, 4], [0, 3, 5], (1, 99), fraction)
        self.assert_same(fewest_cups([1, 0], [0, 1], (1, 100), (1, MOST_BOTTOM)), 691)

    def test_told_numbers(self):
        for number in range(7):
            self.assert_same(fewest_cups([1, 0], [0, 1], (9, 11), (1, 10 ** number)), number)
        self.assert_same(fewest_cups([1, 0], [0, 1], (1, 2), (1, 3)), 1)
        self.assert_same(fewest_cups([1, 0], [0, 1], (1, 2), (333333, MOST_BOTTOM)), 2)
        self.assert_same(fewest_cups([1, 0], [0, 1], (1, 1), (0, 1)), 1)
        self.assert_same(fewest_cups([1, 0], [0, 1], (99, 100), (0, 1)), None)
        self.assert_same(fewest_cups([1, 0], [1, 0], (1, 2), (0, 1)), 0)
        self.assert_same(fewest_cups([1, 0], [0, 1], (1, 2), (1, 1)), 0)
        self.assert_same(fewest_cups([1], [1], (1, 2), (0, 1)), 0)

    def test_lists_and_arguments(self):
        for fraction, number in (((1, 3), 1), ((0, 1), None), ((1, 1), 0)):
            given = {"first": [1, 0], "second": [0, 1], "cup": (1, 2), "fraction": fraction}
            self.assert_gives(fewest_cups, given, number)

    def test_wrong_inputs(self):
        for first, second in (([1, 2], [0, 1]), ([1], [1]), ([1] * 8, [0] * 7 + [1])):
            wrong = {
                "first": (InvalidContent, wrong_contents()),
                "second": (InvalidContent, wrong_two(len(first))),
                "cup": (InvalidCup, wrong_cups()),
                "fraction": (InvalidFraction, wrong_shares_to_reach()),
            }
            valid = {"first": first, "second": second, "cup": (1, 2), "fraction": (1, MOST_BOTTOM)}
            self.assert_wrong_inputs(fewest_cups, valid, wrong)
