"""Promise [9]: strengths; [2], [3] and [4] where they hold for them."""

import itertools
import random
from fractions import Fraction

from tests.helper import (
    GREAT, PotTest, pair, wrong_contents, wrong_fractions, wrong_keeps, wrong_numbers, wrong_shares, wrong_strengths,
)
from topups.errors import InvalidContent, InvalidFraction, InvalidKept, InvalidNumber, InvalidStrengths, TooMany
from topups.strengths import histories_of_strength, strength_of, strengths_differ, uses_of_share
from topups.topping import topped_row

KEEPS = [(1, 2), (1, 3), (2, 3), (3, 4), (5, 6), (2, 5), (7, 10), (1, 100), (99, 100)]
CONTENTS = [
    [1], [1, 0], [0, 1], [1, 1], [1, 2], [3, 0, 5], [6, 10, 15], [1] * 8, [0, 1, 0, 2, 0, 4, 0, 9],
    [GREAT, GREAT + 1], [10 ** 30 - 1, 0, 8], [3 ** 200, 2 ** 300, 0, 5],
]
MOST = 10 ** 30 - 1


def strength_behind(start, row, strengths, kept):
    stays, whole = kept
    strength = Fraction(strengths[start])
    for liquid in row:
        strength += Fraction(whole - stays, whole) * (strengths[liquid] - strength)
    return strength


def told_by_strength(strengths, kept, number):
    """From going through all rows from all liquids: for each strength its histories, ascending."""
    stays, whole = kept
    # Times whole ** number, which keeps the many strengths integers.
    pots = [(start, [], strength) for start, strength in enumerate(strengths)]
    for behind in range(number):
        poured = (whole - stays) * whole ** behind
        pots = [(start, row + [liquid], stays * held + poured * strength)
                for start, row, held in pots for liquid, strength in enumerate(strengths)]
    told = {}
    for start, row, held in pots:
        told.setdefault(Fraction(held, whole ** number), []).append((start, row))
    return told


class StrengthOfTest(PotTest):
    def test_strengths(self):
        chance = random.Random(4)
        for content in CONTENTS:
            count = len(content)
            lists = [[0] * count, [1] * count, [-7] * count, list(range(count)), [-at for at in range(count)],
                     [MOST] * count, [-MOST] * count, [MOST - at * GREAT for at in range(count)]]
            lists += [[chance.randint(-most, most) for _ in range(count)] for most in (1, 9, 1000, MOST)]
            for strengths in lists:
                told = sum(Fraction(amount, sum(content)) * strength for amount, strength in zip(content, strengths))
                with self.subTest(content=content, strengths=strengths):
                    given = {"content": content, "strengths": strengths}
                    self.assert_gives(strength_of, given, pair(told))

    def test_told_strengths(self):
        self.assert_same(strength_of([1, 1], [0, 1]), (1, 2))
        self.assert_same(strength_of([1, 1], [1, 1]), (1, 1))
        self.assert_same(strength_of([1, 3], [0, 40]), (30, 1))
        self.assert_same(strength_of([1, 3], [-2, 0]), (-1, 2))
        self.assert_same(strength_of([1, 1], [5, -5]), (0, 1))
        self.assert_same(strength_of([1, 2, 3], [0, 0, 0]), (0, 1))
        self.assert_same(strength_of([0, 1], [9, -4]), (-4, 1))
        self.assert_same(strength_of([1], [GREAT]), (GREAT, 1))
        self.assert_same(strength_of([1, 1], [-3, 6]), (3, 2))
        self.assert_same(strength_of([1, 5], [-3, -6]), (-11, 2))

    def test_wrong_inputs(self):
        unlike = {1: [[1, 2], [1] * 8], 3: [[1], [1, 2], [1, 2, 3, 4], [1] * 8], 8: [[1], [1] * 7]}
        for content in ([1], [1, 2, 4], [1] * 8):
            valid = {"content": content, "strengths": [3] * len(content)}
            wrong = {
                "content": (InvalidContent, wrong_contents()),
                "strengths": (InvalidStrengths, wrong_strengths() + unlike[len(content)]),
            }
            self.assert_wrong_inputs(strength_of, valid, wrong)


class StrengthsDifferTest(PotTest):
    def test_told_ones(self):
        for strengths, kept, expected in [
            ([0, 1], (2, 3), True), ([0, 2], (2, 3), False), ([0, 1, 2], (2, 3), False), ([0, 1, 2], (3, 4), True),
            ([0, 1], (1, 2), False), ([5], (1, 2), True), ([0], (1, 100), True), ([1, 1], (99, 100), False),
            ([0, -1], (2, 3), True), ([1, -1], (2, 3), False), ([1, -1], (3, 4), True), ([1, -2], (3, 4), False),
            ([-1, -2, -3], (3, 5), True), ([-1, -4], (3, 5), False), ([5, -5, 0], (7, 10), True),
            ([2, -5, 0], (7, 10), False), ([GREAT, -GREAT], (5, 6), False), ([GREAT, GREAT + 98], (99, 100), True),
            ([GREAT, GREAT + 99], (99, 100), False), ([GREAT, 1 - GREAT], (5, 6), True), (list(range(8)), (8, 9), True),
            (list(range(8)), (7, 9), False), ([0] * 8, (99, 100), False), (list(range(-4, 4)), (8, 9), True),
        ]:
            with self.subTest(strengths=strengths, kept=kept):
                self.assert_gives(strengths_differ, {"strengths": strengths, "kept": kept}, expected)

    def test_all_small_strengths(self):
        for kept in KEEPS + [(4, 5), (6, 7)]:
            for length in (1, 2, 3):
                for strengths in itertools.product(range(-7, 8), repeat=length):
                    pairs = itertools.combinations(strengths, 2)
                    expected = all((one - other) % kept[0] != 0 for one, other in pairs)
                    self.assertIs(strengths_differ(list(strengths), kept), expected)

    def test_wrong_inputs(self):
        wrong = {"strengths": (InvalidStrengths, wrong_strengths()), "kept": (InvalidKept, wrong_keeps())}
        for strengths in ([7], [0, 1, -5], [0] * 8):
            self.assert_wrong_inputs(strengths_differ, {"strengths": strengths, "kept": (2, 3)}, wrong)


class HistoriesOfStrengthTest(PotTest):
    def check_all(self, strengths, kept, number):
        """Every strength that has histories, and some that have none."""
        told = told_by_strength(strengths, kept, number)
        least = Fraction(1, kept[1] ** number)
        others = [Fraction(1, 7), min(told) - 1, max(told) + 1, max(told) + least, min(told) - least, min(told) + least]
        if len(told) > 600:
            told = {value: told[value] for value in sorted(told)[::len(told) // 300]}
            others = [value for value in others if value < min(told) or value > max(told) or value == Fraction(1, 7)]
        for value in sorted(set(told) | set(others)):
            expected = told.get(value, [])
            with self.subTest(value=value, strengths=strengths, kept=kept, number=number):
                if len(expected) > 500:
                    self.assert_fails(TooMany, histories_of_strength, pair(value), strengths, kept, number)
                else:
                    self.assert_same(histories_of_strength(pair(value), strengths, kept, number), expected)
        if strengths_differ(strengths, kept):
            self.assertEqual(max(map(len, told.values())), 1)

    def test_against_going_through_all_rows(self):
        lists = [
            ([5], 12), ([0, 1], 9), ([0, 2], 8), ([3, -4], 7), ([1, 1], 8), ([0, 1, 2], 5), ([-1, 0, 6], 5),
            ([4, 0, 4], 5), ([2, 2, 2], 5), ([0, 1, 3, 5], 4), ([7, -7, 0, 7], 4), ([0, 1, 2, 3, 4], 3),
            (list(range(8)), 3), ([0, 1] * 4, 3), ([GREAT, -GREAT, 0], 4), ([0, GREAT, 2 * GREAT], 5),
            ([MOST, 1, -MOST, 0], 4), ([6 ** 20, 0, 3 * 6 ** 20], 5), ([6 ** 20, 0, 6 ** 20 + 1], 5),
        ]
        for strengths, most in lists:
            for number in range(most + 1):
                for kept in [(1, 2), (2, 3), KEEPS[number % len(KEEPS)]]:
                    self.check_all(strengths, kept, number)

    def test_numbers_up_to_12(self):
        for kept in [(1, 2), (2, 3), (3, 4), (99, 100)]:
            for number in (10, 11, 12):
                self.check_all([0, 1], kept, number)
        self.check_all([0, 2], (2, 3), 12)
        self.check_all([0, 1, 1], (1, 2), 8)

    def check_some(self, strengths, kept, number, seed):
        """For strengths that are too many to go through: the histories that are told lead there, the known one too."""
        chance = random.Random(seed)
        start, row = chance.randrange(len(strengths)), [chance.randrange(len(strengths)) for _ in range(number)]
        value = strength_behind(start, row, strengths, kept)
        found = histories_of_strength(pair(value), strengths, kept, number)
        self.assertIn((start, row), found)
        self.assertEqual(len(found), len({(other, *steps) for other, steps in found}))
        self.assertEqual(found, sorted(found))
        for other, steps in found:
            self.assertEqual(len(steps), number)
            self.assertEqual(strength_behind(other, steps, strengths, kept), value)
        if strengths_differ(strengths, kept):
            self.assertEqual(found, [(start, row)])
        return found

    def test_8_liquids_and_great_strengths(self):
        chance = random.Random(2)
        for kept in KEEPS:
            for number in (0, 1, 6, 12):
                self.check_some(list(range(0, 200, 25)), kept, min(number, 4), number)
                for factor in (1, 6 ** 10):
                    strengths = [chance.randint(-10 ** 22, 10 ** 22) * factor for _ in range(8)]
                    self.check_some(strengths, kept, number, number)
        self.assertEqual(len(self.check_some([0, 1, 2, 3, 4, 5, 6, 7], (8, 9), 12, 5)), 1)
        self.assertEqual(len(self.check_some([-3, -2, 0, 15, 13], (7, 8), 12, 6)), 1)

    def test_strengths_that_are_alike(self):
        self.assert_same(histories_of_strength((5, 1), [5, 5], (1, 2), 1), [(0, [0]), (0, [1]), (1, [0]), (1, [1])])
        self.assert_same(histories_of_strength((5, 1), [5, 5, 4], (2, 3), 0), [(0, []), (1, [])])
        self.assertEqual(len(histories_of_strength((5, 1), [5] * 2, (2, 3), 7)), 256)
        self.assert_fails(TooMany, histories_of_strength, (5, 1), [5] * 2, (2, 3), 8)
        self.assert_fails(TooMany, histories_of_strength, (5, 1), [5] * 8, (2, 3), 12)
        self.assertEqual(len(histories_of_strength((5, 1), [5], (2, 3), 12)), 1)

    def test_just_500(self):
        found = histories_of_strength((558, 125), [2, 0, 6, 6, 6, 6, 6, 2], (3, 5), 4)
        self.assertEqual(len(found), 500)
        self.assertEqual(found, told_by_strength([2, 0, 6, 6, 6, 6, 6, 2], (3, 5), 4)[Fraction(558, 125)])
        strengths = [6, 4, 4, 4, 1, 0, 1]
        self.assertEqual(len(told_by_strength(strengths, (1, 3), 5)[Fraction(250, 81)]), 501)
        self.assert_fails(TooMany, histories_of_strength, (250, 81), strengths, (1, 3), 5)

    def test_told_histories(self):
        for value, strengths, kept, number, expected in [
            ((0, 1), [0, 1], (1, 2), 0, [(0, [])]), ((1, 1), [0, 1], (1, 2), 0, [(1, [])]),
            ((1, 2), [0, 1], (1, 2), 0, []), ((1, 2), [0, 1], (1, 2), 1, [(0, [1]), (1, [0])]),
            ((1, 3), [0, 1], (2, 3), 1, [(0, [1])]), ((2, 3), [0, 1], (2, 3), 1, [(1, [0])]),
            ((-1, 3), [0, -1], (2, 3), 1, [(0, [1])]), ((1, 7), [0, 1], (2, 3), 5, []), ((2, 1), [0, 1], (2, 3), 5, []),
            ((-1, 1), [0, 1], (1, 2), 3, []), ((1, 1), [0, 1, 2], (1, 2), 1, [(0, [2]), (1, [1]), (2, [0])]),
        ]:
            given = {"value": value, "strengths": strengths, "kept": kept, "number": number}
            self.assert_gives(histories_of_strength, given, expected)

    def test_histories_of_the_strengths_of_contents(self):
        strengths = [3, -1, 4]
        for kept in [(2, 5), (7, 10), (5, 6)]:
            for start, row in [(0, []), (1, [0]), (2, [2, 2]), (0, [1, 2, 0]), (1, [0, 2, 2, 1, 1, 0])]:
                content = topped_row([int(at == start) for at in range(3)], kept, row)
                value = strength_of(content, strengths)
                given = {"value": value, "strengths": strengths, "kept": kept, "number": len(row)}
                expected = told_by_strength(strengths, kept, len(row))[Fraction(*value)]
                self.assertIn((start, row), expected)
                self.assert_gives(histories_of_strength, given, expected)

    def test_wrong_inputs(self):
        wrong = {
            "value": (InvalidFraction, wrong_fractions()),
            "strengths": (InvalidStrengths, wrong_strengths()),
            "kept": (InvalidKept, wrong_keeps()),
            "number": (InvalidNumber, wrong_numbers(12)),
        }
        valid = {"value": (1, 2), "strengths": [0, 1], "kept": (1, 2), "number": 12}
        self.assert_wrong_inputs(histories_of_strength, valid, wrong)
        too_many = {"value": (5, 1), "strengths": [5] * 8, "kept": (2, 3), "number": 12}
        self.assert_fails_both_ways(TooMany, histories_of_strength, too_many)
        self.assert_wrong_inputs(histories_of_strength, too_many, wrong)
        none = {"value": (1, 7), "strengths": [0], "kept": (2, 3), "number": 0}
        self.assert_wrong_inputs(histories_of_strength, none, wrong)


class UsesOfShareTest(PotTest):
    def share_behind(self, uses, kept):
        return strength_behind(0, [int(use) for use in uses], [0, 1], kept)

    def check_uses(self, uses, kept):
        share = self.share_behind(uses, kept)
        given = {"share": pair(share), "kept": kept, "number": len(uses)}
        with self.subTest(uses=uses, kept=kept):
            self.assert_gives(uses_of_share, given, uses)

    def test_all_uses_of_few_top_ups(self):
        for kept in KEEPS:
            for number in range(7):
                for uses in itertools.product([False, True], repeat=number):
                    self.check_uses(list(uses), kept)

    def test_numbers_0_to_60(self):
        chance = random.Random(6)
        for kept in KEEPS:
            for number in range(61):
                for uses in ([chance.random() < 0.5 for _ in range(number)], [True] * number, [False] * number):
                    self.check_uses(uses, kept)

    def test_shares_that_no_uses_have(self):
        for kept in KEEPS:
            for number in range(5):
                rows = itertools.product([False, True], repeat=number)
                told = {self.share_behind(uses, kept): list(uses) for uses in rows}
                for bottom in [*range(1, 28), kept[1] ** 2, kept[1] ** number]:
                    for top in {*range(min(bottom, 30) + 1), bottom - 1, bottom}:
                        share = Fraction(top, bottom)
                        self.assert_same(uses_of_share(pair(share), kept, number), told.get(share))

    def test_shares_0_and_1(self):
        for kept in KEEPS:
            for number in range(61):
                given = {"share": (0, 1), "kept": kept, "number": number}
                self.assert_gives(uses_of_share, given, [False] * number)
                given = {"share": (1, 1), "kept": kept, "number": number}
                self.assert_gives(uses_of_share, given, None)

    def test_told_uses(self):
        self.assert_same(uses_of_share((0, 1), (1, 2), 0), [])
        self.assert_same(uses_of_share((1, 1), (1, 2), 0), None)
        self.assert_same(uses_of_share((1, 2), (1, 2), 0), None)
        self.assert_same(uses_of_share((1, 2), (1, 2), 1), [True])
        self.assert_same(uses_of_share((1, 2), (1, 2), 2), [False, True])
        self.assert_same(uses_of_share((1, 4), (1, 2), 2), [True, False])
        self.assert_same(uses_of_share((3, 4), (1, 2), 2), [True, True])
        self.assert_same(uses_of_share((3, 4), (1, 2), 1), None)
        self.assert_same(uses_of_share((1, 3), (2, 3), 3), [False, False, True])
        self.assert_same(uses_of_share((2, 3), (2, 3), 1), None)
        self.assert_same(uses_of_share((GREAT, GREAT + 1), (2, 3), 60), None)

    def test_wrong_inputs(self):
        wrong = {
            "share": (InvalidFraction, wrong_shares()),
            "kept": (InvalidKept, wrong_keeps()),
            "number": (InvalidNumber, wrong_numbers(60)),
        }
        for share, kept, number in (((1, 2), (1, 2), 60), ((0, 1), (2, 3), 0), ((1, 7), (99, 100), 2)):
            self.assert_wrong_inputs(uses_of_share, {"share": share, "kept": kept, "number": number}, wrong)
