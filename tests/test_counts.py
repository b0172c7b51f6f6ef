"""Promise [13]: counts; [2], [3] and [4] where they hold for them."""

import itertools
import random
from fractions import Fraction

from tests.helper import (
    GREAT, PotTest, all_contents, pure, wrong_contents, wrong_fractions, wrong_indices, wrong_keeps, wrong_liquids,
    wrong_numbers,
)
from topups.counts import content_index, count_between, count_contents, nth_content
from topups.errors import InvalidContent, InvalidFraction, InvalidIndex, InvalidKept, InvalidLiquid, InvalidNumber
from topups.topping import topped_row

KEEPS = [(1, 2), (1, 3), (2, 3), (3, 4), (5, 6), (2, 5), (7, 10), (1, 100), (99, 100), (98, 99)]
MOST_ROWS = {1: 12, 2: 8, 3: 5, 4: 4, 8: 3}


def contents_in_sequence(count, kept, start, number):
    """The contents of all rows of so many liquids, in their ascending sequence."""
    rows = itertools.product(range(count), repeat=number)
    return [topped_row(pure(count, start), kept, list(row)) for row in rows]


def index_by_digits(row, count):
    return sum(liquid * count ** at for at, liquid in enumerate(reversed(row)))


class CountContentsTest(PotTest):
    def test_against_all_rows(self):
        for kept in KEEPS:
            for count, most in MOST_ROWS.items():
                for number in range(most + 1):
                    for start in {0, count // 2, count - 1}:
                        contents = contents_in_sequence(count, kept, start, number)
                        self.assert_same(count_contents(count, number), len({tuple(content) for content in contents}))

    def test_all_counts_and_numbers(self):
        for count in range(1, 9):
            for number in range(61):
                self.assert_gives(count_contents, {"count": count, "number": number}, count ** number)

    def test_wrong_inputs(self):
        wrong = {"count": (InvalidNumber, [0, *wrong_numbers(8)]), "number": (InvalidNumber, wrong_numbers(60))}
        for count, number in ((1, 0), (8, 60)):
            self.assert_wrong_inputs(count_contents, {"count": count, "number": number}, wrong)


class SequenceTest(PotTest):
    def test_against_all_rows(self):
        for kept in KEEPS:
            for count, most in MOST_ROWS.items():
                for number in range(most + 1):
                    for start in {0, count // 2, count - 1}:
                        for index, content in enumerate(contents_in_sequence(count, kept, start, number)):
                            self.assert_same(nth_content(count, kept, start, number, index), content)
                            self.assert_same(content_index(content, kept, start, number), index)

    def test_contents_to_which_no_row_leads(self):
        for kept in KEEPS:
            for count, most, bottom in ((1, 3, 1), (2, 5, 20), (3, 3, 9), (8, 1, 3)):
                for number, start in itertools.product(range(most + 1), range(count)):
                    reached = contents_in_sequence(count, kept, start, number)
                    for content in all_contents(count, bottom):
                        if content not in reached:
                            self.assert_fails(InvalidContent, content_index, content, kept, start, number)

    def test_up_to_60_top_ups(self):
        chance = random.Random(13)
        for kept in KEEPS:
            for count in range(1, 9):
                for number in (1, 7, 59, 60):
                    start = chance.randrange(count)
                    last = count ** number - 1
                    for index in {0, last, last // 2, chance.randint(0, last), chance.randint(0, last)}:
                        row = [index // count ** at % count for at in range(number - 1, -1, -1)]
                        content = nth_content(count, kept, start, number, index)
                        self.assert_same(content, topped_row(pure(count, start), kept, row))
                        self.assert_same(content_index(content, kept, start, number), index)

    def test_first_and_last(self):
        for kept in KEEPS:
            self.assert_same(nth_content(8, kept, 3, 60, 0), topped_row(pure(8, 3), kept, [0] * 60))
            self.assert_same(nth_content(8, kept, 3, 60, 8 ** 60 - 1), topped_row(pure(8, 3), kept, [7] * 60))
            self.assert_fails(InvalidIndex, nth_content, 8, kept, 3, 60, 8 ** 60)
            self.assert_same(nth_content(8, kept, 3, 0, 0), pure(8, 3))
            self.assert_same(content_index(pure(8, 3), kept, 3, 60), index_by_digits([3] * 60, 8))

    def test_halves(self):
        # There two liquids can be exchanged: each start has its own row.
        self.assert_same(content_index([1, 1], (1, 2), 0, 1), 1)
        self.assert_same(content_index([1, 1], (1, 2), 1, 1), 0)
        self.assert_same(content_index([1, 1, 2], (1, 2), 0, 3), 5)
        self.assert_same(content_index([1, 1, 2], (1, 2), 1, 3), 11)
        self.assert_fails(InvalidContent, content_index, [1, 1, 2], (1, 2), 2, 3)
        self.assert_fails(InvalidContent, content_index, [1, 1, 2], (1, 2), 0, 1)

    def test_lists_and_arguments(self):
        for count, kept, start, number, index, content in [
            (2, (1, 2), 0, 1, 1, [1, 1]), (3, (2, 3), 0, 2, 5, [4, 2, 3]), (1, (2, 3), 0, 60, 0, [1]),
            (8, (1, 100), 7, 0, 0, [0] * 7 + [1]),
        ]:
            given = {"count": count, "kept": kept, "start": start, "number": number, "index": index}
            self.assert_gives(nth_content, given, content)
            given = {"content": content, "kept": kept, "start": start, "number": number}
            self.assert_gives(content_index, given, index)

    def test_wrong_inputs(self):
        for count, number in ((3, 2), (1, 60), (8, 0)):
            wrong = {
                "count": (InvalidNumber, [0, *wrong_numbers(8)]),
                "kept": (InvalidKept, wrong_keeps()),
                "start": (InvalidLiquid, wrong_liquids(count)),
                "number": (InvalidNumber, wrong_numbers(60)),
                "index": (InvalidIndex, wrong_indices(count ** number - 1)),
            }
            valid = {"count": count, "kept": (2, 3), "start": 0, "number": number, "index": count ** number - 1}
            self.assert_wrong_inputs(nth_content, valid, wrong)

    def test_wrong_inputs_of_the_index(self):
        for content, number in (([4, 2, 3], 2), ([1], 60), ([1] + [0] * 7, 0)):
            wrong = {
                "content": (InvalidContent, wrong_contents()),
                "kept": (InvalidKept, wrong_keeps()),
                "start": (InvalidLiquid, wrong_liquids(len(content))),
                "number": (InvalidNumber, wrong_numbers(60)),
            }
            valid = {"content": content, "kept": (2, 3), "start": 0, "number": number}
            self.assert_wrong_inputs(content_index, valid, wrong)

    def test_wrong_arguments_go_ahead_of_a_content_that_is_not_reached(self):
        content = [1, 2, 4]
        self.assert_fails(InvalidContent, content_index, content, (2, 3), 0, 2)
        self.assert_fails(InvalidKept, content_index, content, (2, 4), 3, 61)
        self.assert_fails(InvalidLiquid, content_index, content, (2, 3), 3, 61)
        self.assert_fails(InvalidNumber, content_index, content, (2, 3), 0, 61)


def some_bounds(shares, chance):
    """Fractions below, between, at and above the shares, in any sequence."""
    bounds = [(0, 1), (1, 1), (-1, 2), (3, 2), (GREAT, GREAT - 1), (-1, GREAT), (-GREAT, 1), (1, 3)]
    bounds += [(share.numerator, share.denominator) for share in chance.sample(shares, min(5, len(shares)))]
    for _ in range(5):
        share = Fraction(chance.randint(-5, 105), 100)
        bounds.append((share.numerator, share.denominator))
    return bounds


def amounts_in_all_ways(count, kept, start, number, liquid):
    """Of all lists of uses of the liquid, times b ** number, what it has, with the number of their rows."""
    stays, whole = kept
    ways = [(int(start == liquid), 1)]
    for behind in range(number):
        poured = (whole - stays) * whole ** behind
        ways = [(held * stays + added, many * factor) for held, many in ways
                for added, factor in ((0, count - 1), (poured, 1))]
    return ways


class CountBetweenTest(PotTest):
    def test_against_all_rows(self):
        chance = random.Random(19)
        for kept in KEEPS:
            for count, most in ((1, 3), (2, 6), (3, 4), (8, 2)):
                for number, liquid in itertools.product(range(most + 1), (0, count - 1)):
                    start = chance.randrange(count)
                    contents = contents_in_sequence(count, kept, start, number)
                    shares = [Fraction(content[liquid], sum(content)) for content in contents]
                    for low, high in itertools.product(some_bounds(shares, chance), repeat=2):
                        many = sum(Fraction(*low) <= share <= Fraction(*high) for share in shares)
                        with self.subTest(kept=kept, count=count, start=start, number=number, low=low, high=high):
                            self.assert_same(count_between(count, kept, start, number, liquid, low, high), many)

    def test_up_to_20_top_ups(self):
        chance = random.Random(20)
        for kept, count, number in [
            ((1, 2), 8, 20), ((99, 100), 8, 17), ((2, 3), 5, 16), ((9, 10), 2, 15), ((1, 100), 8, 14), ((3, 4), 3, 13),
            ((1, 3), 1, 12), ((7, 10), 4, 11), ((98, 99), 6, 10),
        ]:
            for start, liquid in ((0, 0), (0, count - 1)):
                ways = amounts_in_all_ways(count, kept, start, number, liquid)
                bottom = kept[1] ** number
                shares = [Fraction(ways[at][0], bottom) for at in chance.sample(range(len(ways)), 5)]
                pairs = list(itertools.product(some_bounds(shares, chance), repeat=2))
                for low, high in chance.sample(pairs, 5):
                    many = sum(rows for held, rows in ways
                               if low[0] * bottom <= held * low[1] and held * high[1] <= high[0] * bottom)
                    with self.subTest(kept=kept, count=count, start=start, number=number, low=low, high=high):
                        self.assert_same(count_between(count, kept, start, number, liquid, low, high), many)

    def test_all_contents(self):
        for kept in KEEPS:
            for count in range(1, 9):
                for number in range(21):
                    for start, liquid in ((0, 0), (count - 1, 0)):
                        many = count_between(count, kept, start, number, liquid, (0, 1), (1, 1))
                        self.assert_same(many, count_contents(count, number))

    def test_parts_of_all_contents(self):
        chance = random.Random(21)
        for kept in KEEPS:
            for count in (2, 3, 8):
                content = nth_content(count, kept, 0, 20, chance.randrange(count ** 20))
                share = Fraction(content[1], sum(content))
                low = (share.numerator, share.denominator)
                below = count_between(count, kept, 0, 20, 1, (-1, 1), low)
                above = count_between(count, kept, 0, 20, 1, low, (2, 1))
                there = count_between(count, kept, 0, 20, 1, low, low)
                self.assertEqual(below + above - there, count ** 20)
                self.assertGreaterEqual(there, 1)

    def test_told_numbers(self):
        self.assert_same(count_between(2, (1, 2), 0, 1, 1, (1, 2), (1, 2)), 1)
        self.assert_same(count_between(2, (1, 2), 0, 2, 1, (1, 4), (1, 2)), 2)
        self.assert_same(count_between(2, (1, 2), 0, 2, 1, (1, 2), (1, 4)), 0)
        self.assert_same(count_between(3, (1, 2), 0, 2, 0, (1, 4), (1, 4)), 4)
        self.assert_same(count_between(8, (1, 2), 7, 0, 7, (1, 1), (GREAT, 1)), 1)
        self.assert_same(count_between(8, (1, 2), 7, 0, 7, (-GREAT, 1), (0, 1)), 0)
        self.assert_same(count_between(8, (1, 2), 7, 0, 0, (-GREAT, 1), (0, 1)), 1)
        self.assert_same(count_between(1, (1, 2), 0, 20, 0, (1, 1), (1, 1)), 1)
        self.assert_same(count_between(8, (99, 100), 0, 20, 1, (0, 1), (0, 1)), 7 ** 20)
        self.assert_same(count_between(8, (99, 100), 0, 20, 0, (1, 1), (1, 1)), 1)
        self.assert_same(count_between(8, (99, 100), 0, 20, 0, (2, 1), (-2, 1)), 0)

    def test_lists_and_arguments(self):
        given = {"count": 3, "kept": (1, 2), "start": 0, "number": 2, "liquid": 0, "low": (1, 4), "high": (1, 4)}
        self.assert_gives(count_between, given, 4)

    def test_wrong_inputs(self):
        for count, number, low, high in ((3, 2, (0, 1), (1, 1)), (1, 0, (5, 2), (-1, 2)), (8, 20, (1, 3), (GREAT, 1))):
            wrong = {
                "count": (InvalidNumber, [0, *wrong_numbers(8)]),
                "kept": (InvalidKept, wrong_keeps()),
                "start": (InvalidLiquid, wrong_liquids(count)),
                "number": (InvalidNumber, wrong_numbers(20)),
                "liquid": (InvalidLiquid, wrong_liquids(count)),
                "low": (InvalidFraction, wrong_fractions()),
                "high": (InvalidFraction, wrong_fractions()),
            }
            valid = {
                "count": count, "kept": (2, 3), "start": 0, "number": number, "liquid": count - 1,
                "low": low, "high": high,
            }
            self.assert_wrong_inputs(count_between, valid, wrong)
