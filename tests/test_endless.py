"""Promise [11]: endless rows; [2], [3] and [4] where they hold for them."""

import itertools
import random
from fractions import Fraction

from tests.helper import (
    GREAT, MOST_BOTTOM, PotTest, all_contents, content_of, pair, pure, shares_of, wrong_contents, wrong_endless_rows,
    wrong_keeps, wrong_numbers, wrong_shares_to_reach,
)
from topups.endless import distance_after, limit_of, limits_along, root_of, rounds_within, row_of_limit, same_limit
from topups.errors import InvalidContent, InvalidFraction, InvalidKept, InvalidNumber, InvalidRow
from topups.topping import contents_along, topped_row

KEEPS = [(1, 2), (1, 3), (2, 3), (3, 4), (5, 6), (2, 5), (4, 9), (7, 10), (1, 100), (99, 100), (98, 99)]


def limit_by_shares(count, row, kept):
    """The shares that the row leads back to: a pot whose rest of the first round is made up for."""
    stays = Fraction(*kept)
    added = [Fraction(0)] * count
    for liquid in row:
        added = [share * stays for share in added]
        added[liquid] += 1 - stays
    rest = 1 - stays ** len(row)
    return [share / rest for share in added]


def some_rows(count, chance):
    """Rows of 1 to 60 liquids: short ones, long ones, repeated ones and those of one liquid."""
    rows = [[0], [count - 1], [0] * 60, [count - 1] * 59, [at % count for at in range(60)]]
    rows += [[chance.randrange(count) for _ in range(length)] for length in (1, 2, 3, 5, 12, 31, 59, 60)]
    return rows + [[chance.randrange(count) for _ in range(length)] * (60 // length) for length in (2, 3, 7, 20, 30)]


def all_rows(count, most):
    for length in range(1, most + 1):
        for row in itertools.product(range(count), repeat=length):
            yield list(row)


def root_by_trying(row):
    return next(row[:length] for length in range(1, len(row) + 1)
                if len(row) % length == 0 and all(row[at] == row[at % length] for at in range(len(row))))


class LimitTest(PotTest):
    def test_limits(self):
        chance = random.Random(11)
        for kept in KEEPS:
            for count in range(1, 9):
                for row in some_rows(count, chance):
                    with self.subTest(count=count, row=row, kept=kept):
                        limit = limit_of(count, row, kept)
                        self.assert_same(limit, content_of(limit_by_shares(count, row, kept)))
                        self.assert_same(topped_row(limit, kept, row), limit)

    def test_contents_along(self):
        chance = random.Random(12)
        for kept in KEEPS:
            for count in range(1, 9):
                for row in some_rows(count, chance):
                    with self.subTest(count=count, row=row, kept=kept):
                        limits = limits_along(count, row, kept)
                        self.assertEqual(len(limits), len(row))
                        self.assert_same(limits, contents_along(limits[0], kept, row)[:-1])
                        for at, limit in enumerate(limits):
                            self.assert_same(limit, limit_of(count, row[at:] + row[:at], kept))

    def test_told_limits(self):
        self.assert_same(limit_of(2, [0, 1], (1, 2)), [1, 2])
        self.assert_same(limit_of(3, [0, 1], (1, 2)), [1, 2, 0])
        self.assert_same(limit_of(2, [1, 0, 1, 0], (1, 2)), [2, 1])
        self.assert_same(limit_of(3, [0, 1, 2], (2, 3)), [4, 6, 9])
        self.assert_same(limit_of(2, [0, 1], (1, 100)), [1, 100])
        self.assert_same(limit_of(2, [0, 1], (99, 100)), [99, 100])
        self.assert_same(limit_of(1, [0], (1, 2)), [1])
        self.assert_same(limits_along(1, [0], (1, 2)), [[1]])
        self.assert_same(limits_along(8, [7], (1, 2)), [[0] * 7 + [1]])
        self.assert_same(limits_along(3, [0, 1, 2], (2, 3)), [[4, 6, 9], [9, 4, 6], [6, 9, 4]])
        self.assert_same(limits_along(2, [1, 1], (7, 10)), [[0, 1], [0, 1]])

    def test_lists_and_arguments(self):
        for count, row, kept in [
            (1, [0], (1, 2)), (2, [1, 0, 0], (2, 3)), (8, [7, 7], (1, 100)), (3, [2] * 60, (3, 4)),
        ]:
            limit = content_of(limit_by_shares(count, row, kept))
            given = {"count": count, "row": row, "kept": kept}
            self.assert_gives(limit_of, given, limit)
            self.assert_gives(limits_along, given, contents_along(limit, kept, row)[:-1])

    def test_wrong_inputs(self):
        for function in (limit_of, limits_along):
            for count, row in ((1, [0]), (2, [1, 0]), (8, [7] * 60)):
                wrong = {
                    "count": (InvalidNumber, [0, *wrong_numbers(8)]),
                    "row": (InvalidRow, wrong_endless_rows(count)),
                    "kept": (InvalidKept, wrong_keeps()),
                }
                self.assert_wrong_inputs(function, {"count": count, "row": row, "kept": (2, 3)}, wrong)


class RowOfLimitTest(PotTest):
    def test_against_going_through_all_rows(self):
        for kept in KEEPS:
            for count, most, bottom in ((1, 6, 1), (2, 7, 12), (3, 4, 9), (4, 3, 7)):
                for number in range(1, most + 1):
                    rows = [list(row) for row in itertools.product(range(count), repeat=number)]
                    told = {tuple(content_of(limit_by_shares(count, row, kept))): row for row in rows}
                    self.assertEqual(len(told), len(rows))
                    for content in sorted({tuple(content) for content in all_contents(count, bottom)} | set(told)):
                        with self.subTest(content=content, kept=kept, number=number):
                            self.assert_same(row_of_limit(list(content), kept, number), told.get(content))

    def test_rows_up_to_60(self):
        chance = random.Random(13)
        for kept in KEEPS:
            for count in (1, 2, 5, 8):
                for row in some_rows(count, chance):
                    root = root_by_trying(row)
                    limit = limit_of(count, row, kept)
                    for number in {1, 2, 59, 60, len(row), len(root), 2 * len(root), max(1, len(root) - 1)}:
                        if number <= 60:
                            fits = number % len(root) == 0
                            with self.subTest(row=row, kept=kept, number=number):
                                expected = root * (number // len(root)) if fits else None
                                self.assert_same(row_of_limit(limit, kept, number), expected)

    def test_limits_by_another_kept_share(self):
        self.assert_same(row_of_limit([1, 2], (1, 2), 2), [0, 1])
        self.assert_same(row_of_limit([1, 2], (1, 3), 2), None)
        self.assert_same(row_of_limit([2, 3], (2, 3), 2), [0, 1])
        self.assert_same(row_of_limit([2, 3], (1, 2), 2), None)

    def test_contents_that_are_no_limits(self):
        for content in ([1, 1], [1, 3], [1, 1, 1], [2, 3, 4], [1] * 8, [GREAT, GREAT + 1], [0, 10 ** 30 - 1, 1]):
            for kept in KEEPS:
                for number in (1, 2, 59, 60):
                    with self.subTest(content=content, kept=kept, number=number):
                        found = row_of_limit(content, kept, number)
                        if found is not None:
                            self.assert_same(limit_of(len(content), found, kept), content)
        self.assert_same(row_of_limit([1, 1], (1, 2), 60), None)
        self.assert_same(row_of_limit([GREAT, GREAT + 1], (2, 3), 60), None)

    def test_lists_and_arguments(self):
        for content, kept, number, row in [
            ([1, 2], (1, 2), 4, [0, 1, 0, 1]), ([0, 1], (2, 3), 3, [1, 1, 1]), ([1], (1, 2), 1, [0]),
            ([1, 1], (1, 2), 2, None), ([4, 6, 9], (2, 3), 3, [0, 1, 2]),
        ]:
            self.assert_gives(row_of_limit, {"content": content, "kept": kept, "number": number}, row)

    def test_wrong_inputs(self):
        wrong = {
            "content": (InvalidContent, wrong_contents()),
            "kept": (InvalidKept, wrong_keeps()),
            "number": (InvalidNumber, [0, *wrong_numbers(60)]),
        }
        for content, number in (([1], 1), ([1, 2], 2), ([1, 1], 60)):
            self.assert_wrong_inputs(row_of_limit, {"content": content, "kept": (1, 2), "number": number}, wrong)


class RootTest(PotTest):
    def check(self, row):
        with self.subTest(row=row):
            self.assert_gives(root_of, {"row": row}, root_by_trying(row))

    def test_all_short_rows(self):
        for count, most in ((1, 12), (2, 9), (3, 6), (8, 3)):
            for row in all_rows(count, most):
                self.check(row)

    def test_repeated_rows(self):
        chance = random.Random(14)
        for times in range(1, 61):
            for length in range(1, 60 // times + 1):
                row = [chance.randrange(8) for _ in range(length)]
                self.check(row * times)
                self.check((row * times)[:-1] + [7])
        self.assert_same(root_of([7] * 60), [7])
        self.assert_same(root_of([0, 1, 0]), [0, 1, 0])
        self.assert_same(root_of([3, 5] * 30), [3, 5])

    def test_wrong_inputs(self):
        for row in ([0], [7, 0]):
            self.assert_wrong_inputs(root_of, {"row": row}, {"row": (InvalidRow, wrong_endless_rows(8))})


class SameLimitTest(PotTest):
    def check(self, row, other):
        with self.subTest(row=row, other=other):
            expected = limit_by_shares(8, row, (1, 2)) == limit_by_shares(8, other, (1, 2))
            self.assert_same(same_limit(row, other), expected)
            self.assert_same(same_limit(other=row, row=other), expected)

    def test_all_short_rows(self):
        for count, most in ((1, 8), (2, 5), (3, 3)):
            for row, other in itertools.product(list(all_rows(count, most)), repeat=2):
                self.check(row, other)

    def test_repeated_rows(self):
        chance = random.Random(15)
        for length in (1, 2, 3, 4, 6, 10, 30):
            for times in range(2, 60 // length + 1):
                row = [chance.randrange(8) for _ in range(length)]
                self.check(row, row * times)
                self.check(row * (times - 1), row * times)
                self.check(row[1:] + row[:1], row * times)
                self.check(row[::-1] * times, row)
        self.assert_same(same_limit([7] * 59, [7]), True)
        self.assert_same(same_limit([7], [6]), False)
        self.assert_same(same_limit([0, 1], [1, 0]), False)
        self.assert_same(same_limit([0, 1] * 30, [0, 1, 0, 1, 0]), False)
        self.assert_same(same_limit([0, 1] * 2, [0, 1] * 3), True)

    def test_lists_and_arguments(self):
        self.assert_gives(same_limit, {"row": [0, 7], "other": [0, 7, 0, 7]}, True)
        self.assert_gives(same_limit, {"row": [0, 7], "other": [7, 0]}, False)

    def test_wrong_inputs(self):
        wrong = {"row": (InvalidRow, wrong_endless_rows(8)), "other": (InvalidRow, wrong_endless_rows(8))}
        for row, other in (([0], [0]), ([7] * 60, [0, 1])):
            self.assert_wrong_inputs(same_limit, {"row": row, "other": other}, wrong)


def distances_by_shares(content, row, kept):
    """The distances behind 0, 1 .. rounds, without end, by going on top-up by top-up."""
    stays = Fraction(*kept)
    limit = limit_by_shares(len(content), row, kept)
    shares = shares_of(content)
    while True:
        yield max(abs(share - goal) for share, goal in zip(shares, limit))
        for liquid in row:
            shares = [share * stays + (1 - stays if at == liquid else 0) for at, share in enumerate(shares)]


def cases_of_rounds():
    chance = random.Random(16)
    for count in (1, 2, 3, 8):
        contents = [pure(count, 0), pure(count, count - 1), [1] * count]
        if count > 1:
            contents += [[GREAT] + [GREAT + 1] * (count - 1), [2, 3] + [0] * (count - 2)]
        for row in some_rows(count, chance)[::3] + [[0, count - 1], [count - 1, 0, 0]]:
            for kept in ((1, 2), (2, 3), (7, 10), (1, 100), (99, 100)):
                for content in contents + [content_of(limit_by_shares(count, row, kept))]:
                    yield content, row, kept


def wrong_for_rounds(liquids):
    return {
        "content": (InvalidContent, wrong_contents()),
        "row": (InvalidRow, wrong_endless_rows(liquids)),
        "kept": (InvalidKept, wrong_keeps()),
    }


class DistanceTest(PotTest):
    def test_distances(self):
        for content, row, kept in cases_of_rounds():
            distances = distances_by_shares(content, row, kept)
            for rounds in range(11) if len(row) < 6 else range(3):
                with self.subTest(content=content, row=row, kept=kept, rounds=rounds):
                    self.assert_same(distance_after(content, row, kept, rounds), pair(next(distances)))

    def test_told_distances(self):
        self.assert_same(distance_after([1, 0], [0, 1], (1, 2), 0), (2, 3))
        self.assert_same(distance_after([1, 0], [0, 1], (1, 2), 1), (1, 6))
        self.assert_same(distance_after([1, 2], [0, 1], (1, 2), 1), (0, 1))
        self.assert_same(distance_after([1, 0], [1], (2, 3), 2), (4, 9))
        self.assert_same(distance_after([1], [0], (1, 2), 10), (0, 1))
        self.assert_same(distance_after([2, 1, 0], [2], (1, 2), 1), (1, 2))
        self.assert_same(distance_after([1, 0], [1] * 60, (99, 100), 10), (99 ** 600, 100 ** 600))

    def test_lists_and_arguments(self):
        for content, row, kept, rounds in [
            ([1, 0], [1, 0], (1, 2), 3), ([1, 1, 1], [2], (2, 3), 10), ([1], [0], (1, 3), 0),
        ]:
            expected = pair(next(itertools.islice(distances_by_shares(content, row, kept), rounds, None)))
            given = {"content": content, "row": row, "kept": kept, "rounds": rounds}
            self.assert_gives(distance_after, given, expected)

    def test_wrong_inputs(self):
        for content, row in (([1], [0]), ([1, 2, 4], [2, 0]), ([1] * 8, [7] * 60)):
            wrong = {**wrong_for_rounds(len(content)), "rounds": (InvalidNumber, wrong_numbers(10))}
            valid = {"content": content, "row": row, "kept": (2, 3), "rounds": 10}
            self.assert_wrong_inputs(distance_after, valid, wrong)


class RoundsTest(PotTest):
    def check(self, content, row, kept, fraction):
        distances = distances_by_shares(content, row, kept)
        expected = None
        if fraction != (0, 1) or next(distances) == 0:
            distances = distances_by_shares(content, row, kept)
            expected = next(rounds for rounds, distance in enumerate(distances) if distance <= Fraction(*fraction))
        with self.subTest(content=content, row=row, kept=kept, fraction=fraction):
            self.assert_same(rounds_within(content, row, kept, fraction), expected)

    def test_rounds(self):
        for content, row, kept in cases_of_rounds():
            for fraction in ((0, 1), (1, 1), (1, 2), (3, 100), (999999, MOST_BOTTOM)):
                self.check(content, row, kept, fraction)
            if len(row) > 5 or kept != (99, 100):
                self.check(content, row, kept, (1, MOST_BOTTOM))
                self.check(content, row, kept, (5, 999999))

    def test_many_rounds(self):
        self.check([1, 0], [1], (99, 100), (1, MOST_BOTTOM))
        self.check([1, 0, 0], [1, 2], (99, 100), (1, 2000))
        self.assert_same(rounds_within([1, 0], [1], (99, 100), (1, MOST_BOTTOM)), 1375)

    def test_just_at_the_fraction(self):
        for rounds in range(7):
            self.assert_same(rounds_within([1, 0], [1], (1, 2), (1, 2 ** rounds)), rounds)
            self.assert_same(rounds_within([1, 0], [1], (1, 2), (99, 99 * 2 ** rounds + 1)), rounds + 1)
            self.assert_same(rounds_within([1, 0], [1, 1], (2, 3), (4 ** rounds, 9 ** rounds)), rounds)
        self.assert_same(rounds_within([1, 0], [1], (1, 10), (1, MOST_BOTTOM)), 6)
        self.assert_same(rounds_within([0, 1], [1], (1, 10), (0, 1)), 0)
        self.assert_same(rounds_within([1, 0], [1], (1, 10), (0, 1)), None)
        self.assert_same(rounds_within([1, 2], [0, 1], (1, 2), (0, 1)), 0)

    def test_agrees_with_distances(self):
        for content, row, kept in cases_of_rounds():
            rounds = rounds_within(content, row, kept, (1, 1000))
            if rounds <= 10:
                self.assertLessEqual(Fraction(*distance_after(content, row, kept, rounds)), Fraction(1, 1000))
            if 0 < rounds <= 11:
                self.assertGreater(Fraction(*distance_after(content, row, kept, rounds - 1)), Fraction(1, 1000))

    def test_lists_and_arguments(self):
        for content, row, kept, fraction, rounds in [
            ([1, 0], [1], (1, 2), (1, 4), 2), ([1, 2], [0, 1], (1, 2), (0, 1), 0), ([1, 0], [1], (1, 2), (0, 1), None),
        ]:
            given = {"content": content, "row": row, "kept": kept, "fraction": fraction}
            self.assert_gives(rounds_within, given, rounds)

    def test_wrong_inputs(self):
        for content, row in (([1], [0]), ([1, 2, 4], [2, 0]), ([1] * 8, [7] * 60)):
            wrong = {**wrong_for_rounds(len(content)), "fraction": (InvalidFraction, wrong_shares_to_reach())}
            valid = {"content": content, "row": row, "kept": (2, 3), "fraction": (1, MOST_BOTTOM)}
            self.assert_wrong_inputs(rounds_within, valid, wrong)
