"""Promise [12]: reach; [2], [3] and [4] where they hold for it."""

import itertools
import random
from fractions import Fraction
from math import gcd

from tests.helper import (
    GREAT, MOST_BOTTOM, PotTest, no_lists, pair, wrong_contents, wrong_keeps, wrong_liquids, wrong_numbers,
    wrong_shares_to_reach,
)
from topups.errors import InvalidContent, InvalidFraction, InvalidKept, InvalidLiquid, InvalidNumber
from topups.reach import fewest_at_least, fewest_at_most, fewest_between, reach_sets, shows_between
from topups.topping import topped_row

KEEPS = [(1, 2), (1, 3), (2, 3), (3, 4), (2, 5), (7, 10), (1, 100), (99, 100)]
CONTENTS = [
    ([1, 0], 0), ([1, 0], 1), ([1, 1], 0), ([3, 5], 1), ([1, 2, 4], 2), ([0, 0, 1], 1), ([1] * 8, 7),
    ([GREAT, GREAT + 1], 0), ([10 ** 30 - 1, 1], 1),
]
FRACTIONS = [
    (0, 1), (1, 1), (1, 2), (1, 3), (2, 3), (1, 4), (3, 4), (3, 8), (1, 100), (99, 100), (1, MOST_BOTTOM),
    (MOST_BOTTOM - 1, MOST_BOTTOM), (123457, 999983),
]


def share(content, liquid):
    return Fraction(content[liquid], sum(content))


def share_behind(held, kept, uses):
    stays = Fraction(*kept)
    for use in uses:
        held = held * stays + (1 - stays if use else 0)
    return held


def all_uses(number):
    return [list(uses) for uses in itertools.product((False, True), repeat=number)]


def stretches_by_lists(kept, low, high, number):
    """The stretches from which one of all lists of top-ups leads to low .. high."""
    stretches = []
    for uses in all_uses(number):
        # From 0 the list leads to added; each share before it counts times rest.
        added = share_behind(Fraction(0), kept, uses)
        rest = Fraction(*kept) ** number
        least = max(Fraction(0), (Fraction(*low) - added) / rest)
        greatest = min(Fraction(1), (Fraction(*high) - added) / rest)
        if least <= greatest:
            stretches.append((least, greatest))
    return joined(stretches)


def joined(stretches):
    found = []
    for least, greatest in sorted(stretches):
        if found and least <= found[-1][1]:
            least, greatest = found[-1][0], max(greatest, found[-1][1])
            found.pop()
        found.append((least, greatest))
    return [(pair(least), pair(greatest)) for least, greatest in found]


def some_fractions(chance, many):
    found = []
    while len(found) < many:
        bottom = chance.choice((1, 2, 3, 4, 6, 9, 16, 27, 100, 1000, MOST_BOTTOM))
        top = chance.randint(0, bottom)
        if gcd(top, bottom) == 1:
            found.append((top, bottom))
    return found


class FewestTest(PotTest):
    def check(self, content, kept, liquid, fraction):
        stays = Fraction(*kept)
        goal = Fraction(*fraction)
        least = most = None
        if goal > 0 or content[liquid] == 0:
            held, least = share(content, liquid), 0
            while held > goal:
                held, least = held * stays, least + 1
        if goal < 1 or content[liquid] == sum(content):
            held, most = share(content, liquid), 0
            while held < goal:
                held, most = held * stays + 1 - stays, most + 1
        with self.subTest(content=content, kept=kept, liquid=liquid, fraction=fraction):
            self.assert_same(fewest_at_most(content, kept, liquid, fraction), least)
            self.assert_same(fewest_at_least(content, kept, liquid, fraction), most)

    def test_against_going_on_step_by_step(self):
        for content, liquid in CONTENTS:
            for kept in KEEPS[:-1]:
                for fraction in FRACTIONS:
                    self.check(content, kept, liquid, fraction)

    def test_many_steps(self):
        for content, liquid in CONTENTS[:3]:
            for fraction in FRACTIONS:
                self.check(content, (99, 100), liquid, fraction)
        self.assert_same(fewest_at_most([1, 0], (99, 100), 0, (1, MOST_BOTTOM)), 1375)
        self.assert_same(fewest_at_least([1, 0], (99, 100), 1, (MOST_BOTTOM - 1, MOST_BOTTOM)), 1375)

    def test_against_all_lists_of_top_ups(self):
        for content, liquid in CONTENTS[:6]:
            for kept in ((1, 2), (2, 3), (2, 5)):
                for fraction in FRACTIONS[2:8]:
                    at_most = at_least = None
                    for number in range(6, -1, -1):
                        shares = [share_behind(share(content, liquid), kept, uses) for uses in all_uses(number)]
                        at_most = number if min(shares) <= Fraction(*fraction) else at_most
                        at_least = number if max(shares) >= Fraction(*fraction) else at_least
                    self.assert_same(fewest_at_most(content, kept, liquid, fraction), at_most)
                    self.assert_same(fewest_at_least(content, kept, liquid, fraction), at_least)

    def test_told_numbers(self):
        for number in range(7):
            self.assert_same(fewest_at_most([1, 0], (1, 10), 0, (1, 10 ** number)), number)
            self.assert_same(fewest_at_least([1, 0], (1, 10), 1, (10 ** number - 1, 10 ** number)), number)
        self.assert_same(fewest_at_most([0, 1], (1, 2), 0, (0, 1)), 0)
        self.assert_same(fewest_at_most([1, 1], (1, 2), 0, (0, 1)), None)
        self.assert_same(fewest_at_least([0, 1], (1, 2), 1, (1, 1)), 0)
        self.assert_same(fewest_at_least([1, 1], (1, 2), 1, (1, 1)), None)
        self.assert_same(fewest_at_most([1, 1], (1, 2), 0, (1, 2)), 0)
        self.assert_same(fewest_at_least([1, 1], (1, 2), 0, (1, 2)), 0)
        self.assert_same(fewest_at_most([1, 0], (2, 3), 0, (1, 1)), 0)
        self.assert_same(fewest_at_least([0, 1], (2, 3), 0, (0, 1)), 0)

    def test_lists_and_arguments(self):
        for content, kept, liquid, fraction, least, most in [
            ([1, 0], (1, 2), 0, (1, 4), 2, 0), ([1, 0], (1, 2), 1, (3, 4), 0, 2), ([1, 1], (1, 2), 0, (0, 1), None, 0),
        ]:
            given = {"content": content, "kept": kept, "liquid": liquid, "fraction": fraction}
            self.assert_gives(fewest_at_most, given, least)
            self.assert_gives(fewest_at_least, given, most)

    def test_wrong_inputs(self):
        for content in ([1, 2, 4], [1, 1], [1] * 8):
            wrong = {
                "content": (InvalidContent, [[1]] + wrong_contents()),
                "kept": (InvalidKept, wrong_keeps()),
                "liquid": (InvalidLiquid, wrong_liquids(len(content))),
                "fraction": (InvalidFraction, wrong_shares_to_reach()),
            }
            valid = {"content": content, "kept": (2, 3), "liquid": 1, "fraction": (1, MOST_BOTTOM)}
            for function in (fewest_at_most, fewest_at_least):
                self.assert_wrong_inputs(function, valid, wrong)


class ReachSetsTest(PotTest):
    def check(self, kept, low, high, number):
        expected = [stretches_by_lists(kept, low, high, behind) for behind in range(number + 1)]
        with self.subTest(kept=kept, low=low, high=high, number=number):
            self.assert_same(reach_sets(kept, low, high, number), expected)
        return expected

    def test_against_all_lists_of_top_ups(self):
        chance = random.Random(12)
        for kept in KEEPS:
            for low, high in itertools.product(FRACTIONS, repeat=2):
                self.check(kept, low, high, 3)
            for _ in range(30):
                low, high = sorted(some_fractions(chance, 2), key=lambda pair: Fraction(*pair))
                self.check(kept, low, high, 5)

    def test_single_points(self):
        for kept in KEEPS:
            for fraction in FRACTIONS:
                for stretches in self.check(kept, fraction, fraction, 6):
                    for least, greatest in stretches:
                        self.assertEqual(least, greatest)

    def test_up_to_12_top_ups(self):
        for kept, low, high in [
            ((1, 2), (1, 4), (1, 3)), ((99, 100), (1, 2), (1, 2)), ((2, 3), (1, 2), (501, 1000)),
            ((1, 3), (0, 1), (1, 9)), ((3, 4), (1, MOST_BOTTOM), (1, MOST_BOTTOM)),
        ]:
            self.check(kept, low, high, 12)
        self.assertEqual(len(reach_sets((99, 100), (1, 2), (1, 2), 12)[12]), 2 ** 12)

    def test_told_sets(self):
        self.assert_same(reach_sets((1, 2), (1, 4), (1, 3), 0), [[((1, 4), (1, 3))]])
        self.assert_same(reach_sets((1, 2), (1, 4), (1, 3), 1), [[((1, 4), (1, 3))], [((1, 2), (2, 3))]])
        # Just where both top-ups lead to the half, the stretches meet.
        halves = [[((1, 4), (3, 4))], [((0, 1), (1, 1))]]
        self.assert_same(reach_sets((1, 2), (1, 4), (3, 4), 1), halves)
        points = [[((1, 2), (1, 2))], [((0, 1), (0, 1)), ((1, 1), (1, 1))]]
        self.assert_same(reach_sets((1, 2), (1, 2), (1, 2), 1), points)
        self.assert_same(reach_sets((1, 3), (2, 5), (3, 5), 2), [[((2, 5), (3, 5))], [], []])
        self.assert_same(reach_sets((1, 3), (1, 9), (2, 9), 1), [[((1, 9), (2, 9))], [((1, 3), (2, 3))]])
        self.assert_same(reach_sets((2, 3), (0, 1), (0, 1), 2), [[((0, 1), (0, 1))]] * 3)
        self.assert_same(reach_sets((2, 3), (0, 1), (1, 1), 2), [[((0, 1), (1, 1))]] * 3)

    def test_low_above_high(self):
        for number in range(13):
            self.assert_same(reach_sets((1, 2), (1, 2), (1, 3), number), [[]] * (number + 1))
            self.assert_same(reach_sets((99, 100), (1, 1), (999999, MOST_BOTTOM), number), [[]] * (number + 1))

    def test_lists_and_arguments(self):
        for kept, low, high, number in [
            ((1, 2), (1, 4), (1, 3), 3), ((1, 2), (1, 3), (1, 4), 12), ((2, 3), (1, 2), (1, 2), 4),
            ((1, 3), (0, 1), (1, 1), 0),
        ]:
            expected = [stretches_by_lists(kept, low, high, behind) for behind in range(number + 1)]
            self.assert_gives(reach_sets, {"kept": kept, "low": low, "high": high, "number": number}, expected)

    def test_wrong_inputs(self):
        wrong = {
            "kept": (InvalidKept, wrong_keeps()),
            "low": (InvalidFraction, wrong_shares_to_reach()),
            "high": (InvalidFraction, wrong_shares_to_reach()),
            "number": (InvalidNumber, wrong_numbers(12)),
        }
        for low, high in (((0, 1), (1, 1)), ((1, 2), (1, MOST_BOTTOM))):
            self.assert_wrong_inputs(reach_sets, {"kept": (2, 3), "low": low, "high": high, "number": 2}, wrong)


def fewest_by_lists(held, kept, low, high, most):
    """The least number of top-ups that lead to low .. high, by all lists of at most so many; None for none."""
    shares = [held]
    for number in range(most + 1):
        if any(Fraction(*low) <= each <= Fraction(*high) for each in shares):
            return number
        shares = [share_behind(each, kept, [use]) for each in shares for use in (False, True)]
    return None


def cases_between():
    chance = random.Random(17)
    for content, liquid in CONTENTS:
        for kept in KEEPS:
            for _ in range(4):
                low, high = some_fractions(chance, 2)
                yield content, kept, liquid, low, high
            middle = chance.randint(1, 998)
            yield content, kept, liquid, pair(Fraction(middle, 1000)), pair(Fraction(middle + 1, 1000))


class FewestBetweenTest(PotTest):
    def check(self, content, kept, liquid, low, high, most):
        number = fewest_by_lists(share(content, liquid), kept, low, high, most)
        uses = fewest_between(content, kept, liquid, low, high)
        with self.subTest(content=content, kept=kept, liquid=liquid, low=low, high=high):
            self.assertEqual(uses, fewest_between(list(content), kept, liquid, low, high))
            if uses is None or number is None:
                # Lists that are longer than those that were gone through may be found.
                self.assertIsNone(number)
                self.assertTrue(uses is None or most < len(uses) <= 12)
                self.assert_same(shows_between(content, kept, liquid, low, high, uses), uses is not None)
                return
            self.assertEqual(len(uses), number)
            self.assertEqual([type(use) for use in uses], [bool] * number)
            behind = share_behind(share(content, liquid), kept, uses)
            self.assertTrue(Fraction(*low) <= behind <= Fraction(*high))
            self.assert_same(shows_between(content, kept, liquid, low, high, uses), True)

    def test_against_all_lists_of_top_ups(self):
        for content, kept, liquid, low, high in cases_between():
            self.check(content, kept, liquid, low, high, 8)

    def test_up_to_12_top_ups(self):
        for content, kept, liquid, low, high in list(cases_between())[::23]:
            self.check(content, kept, liquid, low, high, 12)
        for number in (11, 12, 13):
            fraction = (1, 2 ** number)
            uses = [False] * number if number <= 12 else None
            self.assert_same(fewest_between([1, 0], (1, 2), 0, fraction, fraction), uses)
            fraction = (2 ** number - 1, 2 ** number)
            uses = [True] * number if number <= 12 else None
            self.assert_same(fewest_between([1, 0], (1, 2), 1, fraction, fraction), uses)

    def test_what_a_row_leads_to(self):
        chance = random.Random(18)
        for kept in ((1, 2), (2, 3), (1, 3)):
            for number in range(9):
                uses = [chance.random() < 0.5 for _ in range(number)]
                content = topped_row([1, 0, 0], kept, [int(use) for use in uses])
                fraction = pair(share(content, 1))
                found = fewest_between([1, 0, 0], kept, 1, fraction, fraction)
                self.assertLessEqual(len(found), number)
                row = [int(use) for use in found]
                self.assertEqual(pair(share(topped_row([1, 0, 0], kept, row), 1)), fraction)

    def test_told_lists(self):
        self.assert_same(fewest_between([1, 0], (1, 2), 0, (1, 4), (1, 3)), [False, False])
        self.assert_same(fewest_between([1, 0], (1, 2), 1, (1, 4), (1, 3)), [True, False])
        self.assert_same(fewest_between([1, 0], (1, 2), 0, (1, 1), (1, 1)), [])
        self.assert_same(fewest_between([1, 0], (1, 2), 0, (0, 1), (0, 1)), None)
        self.assert_same(fewest_between([1, 0], (1, 2), 0, (1, 1), (0, 1)), None)
        self.assert_same(fewest_between([1, 1], (1, 2), 0, (1, 2), (1, 3)), None)

    def test_lists_and_arguments(self):
        for content, kept, liquid, low, high, uses in [
            ([1, 0], (1, 2), 0, (1, 4), (1, 3), [False, False]), ([1, 1], (1, 2), 1, (0, 1), (1, 1), []),
            ([1, 0], (1, 2), 0, (1, 3), (1, 3), None), ([0, 1, 0], (1, 3), 0, (2, 9), (2, 9), [True, False]),
        ]:
            given = {"content": content, "kept": kept, "liquid": liquid, "low": low, "high": high}
            self.assert_gives(fewest_between, given, uses)

    def test_wrong_inputs(self):
        for content in ([1, 2, 4], [1] * 8):
            wrong = wrong_between(len(content))
            valid = {"content": content, "kept": (2, 3), "liquid": 1, "low": (1, MOST_BOTTOM), "high": (1, 2)}
            self.assert_wrong_inputs(fewest_between, valid, wrong)


def wrong_between(liquids):
    return {
        "content": (InvalidContent, [[1]] + wrong_contents()),
        "kept": (InvalidKept, wrong_keeps()),
        "liquid": (InvalidLiquid, wrong_liquids(liquids)),
        "low": (InvalidFraction, wrong_shares_to_reach()),
        "high": (InvalidFraction, wrong_shares_to_reach()),
    }


class ShowsBetweenTest(PotTest):
    def test_all_lists(self):
        for content, kept, liquid, low, high in list(cases_between())[::3]:
            number = fewest_by_lists(share(content, liquid), kept, low, high, 6)
            for uses in [uses for length in range(7) for uses in all_uses(length)]:
                behind = share_behind(share(content, liquid), kept, uses)
                expected = len(uses) == number and Fraction(*low) <= behind <= Fraction(*high)
                found = shows_between(content, kept, liquid, low, high, uses)
                self.assert_same(found, expected)

    def test_several_shortest_lists(self):
        low, high = (53, 100), (1091, 2000)
        found = [uses for uses in all_uses(3) if shows_between([1, 1], (9, 10), 0, low, high, uses)]
        self.assertEqual(found, [[True, False, True], [True, True, False]])
        self.assertIn(fewest_between([1, 1], (9, 10), 0, low, high), found)

    def test_any_objects(self):
        things = no_lists() + [
            (), (False, False), [0, 0], [1, 1], [False, 0], [0, False], [False], [False, False, False], [None, None],
            ["", ""], [False, None], [[False], False], [[False, False]], [False, True], [True, False], [True, True],
            {"0": False, "1": False}, [False] * 4000, [[]], [(), ()],
        ]
        for thing in things:
            with self.subTest(thing=thing):
                self.assert_same(shows_between([1, 0], (1, 2), 0, (1, 4), (1, 3), thing), False)
                self.assert_same(shows_between([1, 0], (1, 2), 0, (0, 1), (0, 1), thing), False)
                self.assert_same(shows_between([1, 0], (1, 2), 0, (1, 2), (1, 1), thing), False)
        self.assert_same(shows_between([1, 0], (1, 2), 0, (1, 4), (1, 3), [False, False]), True)
        self.assert_same(shows_between([1, 0], (1, 2), 0, (1, 2), (1, 1), []), True)
        self.assert_same(shows_between([1, 0], (1, 2), 0, (0, 1), (0, 1), []), False)

    def test_none_is_no_list(self):
        self.assert_same(fewest_between([1, 0], (1, 2), 0, (1, 3), (1, 3)), None)
        self.assert_same(shows_between([1, 0], (1, 2), 0, (1, 3), (1, 3), None), False)

    def test_lists_and_arguments(self):
        for thing, expected in (([False, False], True), ([False, True], False), ([[0]], False), (None, False)):
            given = {"content": [1, 0], "kept": (1, 2), "liquid": 0, "low": (1, 4), "high": (1, 3), "thing": thing}
            self.assert_gives(shows_between, given, expected)

    def test_wrong_inputs(self):
        for content, thing in (([1, 2, 4], [True]), ([1] * 8, None)):
            wrong = {**wrong_between(len(content)), "thing": (None, [])}
            valid = {"content": content, "kept": (2, 3), "liquid": 1, "low": (1, 2), "high": (1, 1), "thing": thing}
            self.assert_wrong_inputs(shows_between, valid, wrong)
