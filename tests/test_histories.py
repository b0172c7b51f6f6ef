"""Promise [8]: histories; [2], [3] and [4] where they hold for them."""

import itertools
import random
from fractions import Fraction
from math import gcd

from tests.helper import (
    GREAT, PotTest, all_contents, pure, told_along, wrong_contents, wrong_keeps, wrong_lists_of_keeps, wrong_numbers,
)
from topups.errors import InvalidContent, InvalidKept, InvalidNumber, TooMany
from topups.histories import all_histories, histories_along, history_of, is_one_left, stuck_at
from topups.topping import topped_by, topped_row

KEEPS = [(1, 2), (1, 3), (2, 3), (3, 4), (5, 6), (2, 5), (4, 9), (7, 10), (1, 100), (99, 100), (98, 99)]
PARTS = [(k, k + 1) for k in range(1, 9)]


def behind_long(content, kept, row):
    """The content behind a row, also one that is longer than a row may be."""
    for at in range(0, len(row), 60):
        content = topped_row(content, kept, row[at:at + 60])
    return content


def without_idle(start, row):
    """The short history that is left without the top-ups that change nothing."""
    idle = next((at for at, liquid in enumerate(row) if liquid != start), len(row))
    return (start, row[idle:])


def short_ones(start, row, kept):
    """The short histories of a content, ascending, told from one of them."""
    if kept == (1, 2) and row:
        return sorted([(start, row), (row[0], [start] + row[1:])])
    return [(start, row)]


def some_rows(count, lengths, seed):
    chance = random.Random(seed)
    return [(chance.randrange(count), [chance.randrange(count) for _ in range(length)]) for length in lengths]


def given_short(count, kept, lengths, seed):
    """Contents behind such rows, each with its short histories."""
    for start, row in some_rows(count, lengths, seed):
        yield behind_long(pure(count, start), kept, row), short_ones(*without_idle(start, row), kept)


def short_by_going_through(count, kept, most):
    """The short histories of each content that at most so many top-ups lead to, by going through all rows."""
    short = {}
    for number in range(most + 1):
        for content, histories in told_along(count, [kept] * number).items():
            short.setdefault(content, []).extend(way for way in histories if without_idle(*way) == way)
    return {content: sorted(histories) for content, histories in short.items()}


def befores(content, kept):
    """What R2 leaves: each liquid that can be the last one of n top-ups with the integers before, of b ** (n - 1)."""
    (stays, whole), bottom = kept, sum(content)
    for liquid in range(len(content)):
        shares = [Fraction(amount) for amount in content]
        shares[liquid] -= Fraction((whole - stays) * bottom, whole)
        numbers = [share / stays for share in shares]
        if all(number.denominator == 1 and number >= 0 for number in numbers):
            yield liquid, [int(number) for number in numbers]


def is_power_of(number, base):
    return any(base ** exponent == number for exponent in range(number.bit_length() + 1))


def undone_by_r2(content, kept):
    undone = []
    while sum(content) > 1 and is_power_of(sum(content), kept[1]):
        found = list(befores(content, kept))
        if not found:
            break
        liquid, content = found[-1]
        undone.append(liquid)
    return undone, list(content)


class HistoryOfTest(PotTest):
    def check_all(self, kept, count, most, bottom):
        """All contents behind few top-ups, and all others that have small bottoms."""
        short = short_by_going_through(count, kept, most)
        contents = {tuple(content) for content in all_contents(count, bottom)} | set(short)
        self.assertLessEqual(bottom, kept[1] ** most)
        for content in sorted(contents):
            with self.subTest(kept=kept, content=content):
                expected = short.get(content, [None])
                self.assertEqual(len(expected), 2 if kept == (1, 2) and content in short and sum(content) > 1 else 1)
                self.assert_same(history_of(list(content), kept), expected[0])
                self.assertIs(stuck_at(list(content), kept) is None, content in short)

    def test_against_going_through_all_rows(self):
        for kept in [(1, 2), (1, 3), (2, 3), (3, 4), (2, 5)]:
            self.check_all(kept, 1, 6, 1)
            self.check_all(kept, 2, 6, 60)
            self.check_all(kept, 3, 5, 25)
            self.check_all(kept, 4, 4, 12)
        for kept in [(1, 100), (99, 100), (7, 10), (98, 99)]:
            self.check_all(kept, 2, 4, 100)
            self.check_all(kept, 3, 3, 20)

    def test_rows_of_0_to_60_top_ups_and_of_more(self):
        for kept in KEEPS:
            for count in (2, 3, 8):
                for content, histories in given_short(count, kept, [*range(61), 61, 75, 100, 150], count):
                    with self.subTest(kept=kept, content=content):
                        self.assert_gives(history_of, {"content": content, "kept": kept}, histories[0])
                        self.assertIsNone(stuck_at(content, kept))

    def test_pure_contents(self):
        for kept in KEEPS:
            for count in range(1, 9):
                for liquid in range(count):
                    given = {"content": pure(count, liquid), "kept": kept}
                    self.assert_gives(history_of, given, (liquid, []))

    def test_the_lesser_start_of_two(self):
        self.assert_same(history_of([1, 1], (1, 2)), (0, [1]))
        self.assert_same(history_of([0, 1, 1], (1, 2)), (1, [2]))
        self.assert_same(history_of([1, 0, 1], (1, 2)), (0, [2]))
        self.assert_same(history_of([1, 3], (1, 2)), (0, [1, 1]))
        self.assert_same(history_of([3, 1], (1, 2)), (0, [1, 0]))
        for content in ([3, 1], [1, 1, 2], [1] * 2 + [2, 4, 8, 16, 32, 64]):
            start, row = history_of(content, (1, 2))
            self.assertLess(start, row[0])
            self.assertEqual(topped_row(pure(len(content), start), (1, 2), row), content)
            self.assertEqual(topped_row(pure(len(content), row[0]), (1, 2), [start] + row[1:]), content)

    def test_told_histories(self):
        self.assert_same(history_of([2, 1], (2, 3)), (0, [1]))
        self.assert_same(history_of([1, 2], (2, 3)), (1, [0]))
        self.assert_same(history_of([4, 2, 3], (2, 3)), (0, [1, 2]))
        self.assert_same(history_of([1, 99], (1, 100)), (0, [1]))
        self.assert_same(history_of([99, 1], (99, 100)), (0, [1]))

    def test_none(self):
        for kept in KEEPS:
            for content in ([1, 2 * kept[1]], [1, GREAT], [1] * 7, [kept[1] ** 3, 1]):
                if not is_power_of(sum(content), kept[1]):
                    self.assert_gives(history_of, {"content": content, "kept": kept}, None)
        for content, kept in [([1, 1, 1], (1, 3)), ([1, 1, 1], (2, 3)), ([1, 8], (2, 3)), ([4, 5], (1, 3)),
                              ([1, 1, 1, 1], (1, 2)), ([3, 4, 9], (1, 4)), ([5, 5, 6], (3, 4)), ([1, 15], (3, 4)),
                              ([50, 49, 1], (99, 100)), ([3, 97], (1, 100))]:
            self.assertTrue(is_power_of(sum(content), kept[1]))
            self.assert_gives(history_of, {"content": content, "kept": kept}, None)

    def test_wrong_inputs(self):
        valid = {"content": [4, 2, 3], "kept": (2, 3)}
        wrong = {"content": (InvalidContent, wrong_contents()), "kept": (InvalidKept, wrong_keeps())}
        self.assert_wrong_inputs(history_of, valid, wrong)
        self.assert_wrong_inputs(stuck_at, valid, wrong)
        self.assert_wrong_inputs(stuck_at, {"content": [1, 2, 4], "kept": (1, 2)}, wrong)


class AllHistoriesTest(PotTest):
    def test_against_going_through_all_rows(self):
        for kept in [(1, 2), (1, 3), (2, 3), (3, 4), (99, 100), (1, 100)]:
            for count, most, bottom in ((1, 8, 1), (2, 8, 30), (3, 5, 18), (4, 4, 10), (8, 2, 4)):
                for number in range(most + 1):
                    told = told_along(count, [kept] * number)
                    for content in sorted({tuple(content) for content in all_contents(count, bottom)} | set(told)):
                        found = all_histories(list(content), kept, number)
                        self.assert_same(found, told.get(content, []))

    def test_numbers_0_to_60(self):
        for kept in KEEPS:
            for content, short in given_short(4, kept, [0, 1, 2, 3, 17, 58, 59, 60, 61, 90], 4):
                for number in range(61):
                    fitting = [(start, row) for start, row in short if len(row) <= number]
                    expected = [(start, [start] * (number - len(row)) + row) for start, row in fitting]
                    with self.subTest(kept=kept, content=content, number=number):
                        given = {"content": content, "kept": kept, "number": number}
                        self.assert_gives(all_histories, given, expected)

    def test_told_histories(self):
        self.assert_same(all_histories([1, 1], (1, 2), 0), [])
        self.assert_same(all_histories([1, 1], (1, 2), 1), [(0, [1]), (1, [0])])
        self.assert_same(all_histories([1, 1], (1, 2), 3), [(0, [0, 0, 1]), (1, [1, 1, 0])])
        self.assert_same(all_histories([1, 3], (1, 2), 2), [(0, [1, 1]), (1, [0, 1])])
        self.assert_same(all_histories([2, 1], (2, 3), 2), [(0, [0, 1])])
        self.assert_same(all_histories([0, 1], (2, 3), 0), [(1, [])])
        self.assert_same(all_histories([0, 1], (1, 2), 3), [(1, [1, 1, 1])])
        self.assert_same(all_histories([1], (1, 2), 60), [(0, [0] * 60)])
        self.assert_same(all_histories([1, 4], (1, 2), 60), [])

    def test_wrong_inputs(self):
        for content, kept in (([4, 2, 3], (2, 3)), ([1, 1], (1, 2)), ([1, 2, 4], (3, 4))):
            valid = {"content": content, "kept": kept, "number": 2}
            wrong = {
                "content": (InvalidContent, wrong_contents()),
                "kept": (InvalidKept, wrong_keeps()),
                "number": (InvalidNumber, wrong_numbers(60)),
            }
            self.assert_wrong_inputs(all_histories, valid, wrong)


class StuckAtTest(PotTest):
    def check_stuck(self, content, kept, undone, left):
        self.assert_gives(stuck_at, {"content": content, "kept": kept}, (undone, left))
        self.assertIsNone(history_of(content, kept))
        self.assertEqual(behind_long(left, kept, undone[::-1]), content)
        self.assertTrue(not is_power_of(sum(left), kept[1]) or not list(befores(left, kept)))

    def test_all_contents_of_small_bottoms(self):
        for kept, most in [((1, 2), 32), ((1, 3), 27), ((2, 3), 27), ((3, 4), 16), ((1, 4), 16), ((2, 5), 25)]:
            for content in all_contents(2, kept[1] ** 3) + all_contents(3, most):
                undone, left = undone_by_r2(content, kept)
                if sum(left) == 1:
                    self.assertIsNone(stuck_at(content, kept))
                else:
                    self.check_stuck(content, kept, undone, left)

    def test_what_is_left_behind_long_rows(self):
        lefts = [([1, 1, 1], (1, 3)), ([1, 1, 1], (2, 3)), ([1, 8, 0], (2, 3)), ([1, 1, 1, 1], (1, 2)),
                 ([5, 5, 6], (3, 4)), ([1, 15], (3, 4)), ([50, 49, 1], (99, 100)), ([98, 1, 1], (1, 100)),
                 ([5, 5, 6, 0], (1, 2)), ([49] * 2 + [1, 1], (1, 10)), ([33, 33, 33, 1], (99, 100))]
        for left, kept in lefts:
            self.assertEqual(undone_by_r2(left, kept), ([], left))
            for _, row in some_rows(len(left), [0, 1, 2, 3, 10, 59, 60, 61, 100], 9):
                content = behind_long(left, kept, row)
                with self.subTest(left=left, kept=kept, row=row):
                    self.check_stuck(content, kept, row[::-1], left)

    def test_bottoms_that_are_no_powers_are_left_as_they_are(self):
        for left, kept in [([1, 2], (1, 2)), ([1, 1], (1, 3)), ([5, 1], (1, 2)), ([1, 2], (5, 6)), ([3, 5, 2], (1, 100)),
                           ([GREAT, 1], (1, 2)), ([1, 3], (7, 8)), ([9, 1], (99, 100)), ([6, 1, 1], (3, 4))]:
            for _, row in some_rows(len(left), [0, 1, 2, 10, 60], 3):
                content = behind_long(left, kept, row)
                self.check_stuck(content, kept, [], content)

    def test_told_ones(self):
        self.assert_same(stuck_at([1, 2], (1, 2)), ([], [1, 2]))
        self.assert_same(stuck_at([7, 1, 1], (1, 3)), ([0], [1, 1, 1]))
        self.assert_same(stuck_at([1, 8], (2, 3)), ([], [1, 8]))
        self.assert_same(stuck_at([1, 1, 1], (2, 3)), ([], [1, 1, 1]))
        self.assertIsNone(stuck_at([1, 1], (1, 2)))
        self.assertIsNone(stuck_at([0, 1], (1, 2)))
        self.assertIsNone(stuck_at([1], (99, 100)))

    def test_what_is_left_is_a_new_list(self):
        content = [1, 2]
        undone, left = stuck_at(content, (1, 2))
        self.assertIsNot(left, content)
        left.append(9)
        self.assertEqual((content, undone), ([1, 2], []))


class HistoriesAlongTest(PotTest):
    def check_all(self, count, keeps, bottom):
        told = told_along(count, keeps)
        for content in sorted({tuple(content) for content in all_contents(count, bottom)} | set(told)):
            expected = told.get(content, [])
            with self.subTest(content=content, keeps=keeps):
                if len(expected) > 500:
                    self.assert_fails(TooMany, histories_along, list(content), keeps)
                else:
                    self.assert_same(histories_along(list(content), keeps), expected)
        if is_one_left(keeps):
            self.assertLessEqual(max(map(len, told.values())), 1)

    def test_all_pairs_of_small_kept_shares(self):
        small = [(a, b) for b in range(2, 8) for a in range(1, b) if gcd(a, b) == 1]
        for keeps in itertools.product(small, repeat=2):
            self.check_all(3, list(keeps), 6)

    def test_unlike_kept_shares(self):
        chance = random.Random(8)
        small = [(1, 2), (2, 3), (3, 4), (1, 3), (1, 4), (4, 5), (5, 6), (3, 8), (8, 9)]
        for count, most in ((1, 8), (2, 8), (3, 6), (4, 5), (8, 3)):
            for number in range(most + 1):
                for pool in (small, small[:4], KEEPS):
                    self.check_all(count, [chance.choice(pool) for _ in range(number)], 6)

    def test_parts_of_one_size(self):
        # Behind n of these top-ups all n + 1 parts of the pot are alike: histories are as many as can be.
        for count, most in ((2, 8), (3, 7), (4, 5), (5, 4)):
            for number in range(most + 1):
                self.check_all(count, PARTS[:number], 9)
        for number in range(1, 6):
            self.check_all(3, PARTS[number:] + PARTS[:1], 7)

    def test_too_many(self):
        for content in ([2, 1, 1, 1, 1, 1, 1, 1], [1, 1, 1], [5, 3, 1], [4, 4, 1], [0, 3, 2, 2, 2], [5, 2, 2]):
            self.assert_fails_both_ways(TooMany, histories_along, {"content": content, "keeps": PARTS})
        self.assertEqual(len(histories_along([6, 2, 1], PARTS)), 252)
        self.assertEqual(len(histories_along([4, 3, 1], PARTS[:7])), 280)
        self.assertEqual(len(histories_along([1, 3, 1, 1], PARTS[:5])), 120)

    def test_just_500(self):
        keeps = [(1, 2), (1, 4), (8, 13), (13, 14), (7, 10), (10, 11), (22, 23), (23, 24)]
        found = histories_along([8, 8, 7, 1], keeps)
        self.assertEqual(len(found), 500)
        self.assertEqual(found, sorted(found))
        for (start, row), (other, later) in zip(found, found[1:]):
            self.assertLess((start, row), (other, later))
        for start, row in found:
            self.assertEqual(topped_by(pure(4, start), keeps, row), [8, 8, 7, 1])
        keeps = [(1, 2), (2, 3), (3, 4), (4, 5), (5, 8), (8, 9), (3, 4), (12, 13)]
        self.assert_fails(TooMany, histories_along, [8, 1, 1, 3], keeps)

    def test_the_example_of_r3(self):
        given = {"content": [1, 3], "keeps": [(1, 3), (3, 4)]}
        self.assert_gives(histories_along, given, [(0, [1, 1]), (1, [1, 0])])

    def test_told_histories(self):
        self.assert_same(histories_along([0, 1], []), [(1, [])])
        self.assert_same(histories_along([1, 1], []), [])
        self.assert_same(histories_along([1, 1], [(1, 2)]), [(0, [1]), (1, [0])])
        self.assert_same(histories_along([1, 1], [(1, 3), (3, 4)]), [(0, [1, 0]), (1, [0, 1])])
        self.assert_same(histories_along([1, 2], [(1, 2), (2, 3)]), [(0, [1, 1]), (1, [0, 1]), (1, [1, 0])])
        self.assert_same(histories_along([0, 1], PARTS), [(1, [1] * 8)])

    def test_one_kept_share_for_all(self):
        for kept in KEEPS:
            for content, _ in given_short(3, kept, range(9), 6):
                for number in range(9):
                    expected = all_histories(content, kept, number)
                    self.assert_gives(histories_along, {"content": content, "keeps": [kept] * number}, expected)

    def keeps_of_r3(self, chance, number):
        """A list of kept shares for which the condition of R3 holds."""
        keeps = []
        while len(keeps) < number:
            kept = chance.choice([(1, 3), (2, 5), (49, 100), (3, 7), (2, 3), (98, 99), (7, 10), (11, 13), (96, 97)])
            others_fit = all(gcd(kept[0], whole) == 1 for _, whole in keeps)
            if 2 * kept[0] < kept[1] or kept[0] > 1 and others_fit:
                keeps.append(kept)
        return keeps

    def test_up_to_60_where_the_condition_of_r3_holds(self):
        chance = random.Random(3)
        for number in [*range(0, 61, 3), 9, 59, 60]:
            for count in (1, 2, 5, 8):
                keeps = self.keeps_of_r3(chance, number)
                self.assertTrue(is_one_left(keeps))
                start, row = chance.randrange(count), [chance.randrange(count) for _ in range(number)]
                content = topped_by(pure(count, start), keeps, row)
                with self.subTest(content=content, keeps=keeps):
                    self.assert_gives(histories_along, {"content": content, "keeps": keeps}, [(start, row)])
                    self.assert_gives(histories_along, {"content": [1, 2], "keeps": [(2, 5)] * number}, [])
        for kept in [(1, 3), (2, 3), (99, 100), (98, 99), (1, 100), (7, 10)]:
            for start, row in some_rows(8, [9, 30, 59, 60], 5):
                content = topped_by(pure(8, start), [kept] * len(row), row)
                given = {"content": content, "keeps": [kept] * len(row)}
                self.assert_gives(histories_along, given, [(start, row)])

    def test_wrong_inputs(self):
        unlike = [[(1, 2)] * 9, [(1, 2)] * 60, PARTS + [(9, 10)], [(1, 3)] * 8 + [(3, 4)], [(1, 3)] * 59 + [(3, 4)],
                  [(1, 3), (3, 4)] + [(1, 3)] * 7, [(2, 3)] * 8 + [(1, 2)], [(2, 3)] * 61, [(1, 3)] * 61]
        wrong = {
            "content": (InvalidContent, wrong_contents()),
            "keeps": (InvalidKept, wrong_lists_of_keeps() + unlike),
        }
        for content, keeps in (([1, 3], [(1, 3), (3, 4)]), ([1], []), ([1, 1, 1], PARTS)):
            self.assert_wrong_inputs(histories_along, {"content": content, "keeps": keeps}, wrong)

    def test_8_need_no_condition(self):
        for keeps in ([(1, 2)] * 8, [(1, 3)] * 7 + [(3, 4)], [(2, 3)] * 7 + [(1, 2)]):
            self.assertFalse(is_one_left(keeps))
            self.assert_same(histories_along([1, 0], keeps), [(0, [0] * 8)])
            self.assert_fails(InvalidKept, histories_along, [1, 0], [(1, 5)] + keeps)


class IsOneLeftTest(PotTest):
    def expected(self, keeps):
        fits = [2 * a < b or a >= 2 and all(gcd(a, earlier) == 1 for _, earlier in keeps[:at])
                for at, (a, b) in enumerate(keeps)]
        return all(fits)

    def test_told_ones(self):
        for keeps, expected in [
            ([], True), ([(1, 2)], False), ([(1, 3)], True), ([(2, 3)], True), ([(1, 3), (3, 4)], False),
            ([(3, 4), (1, 3)], True), ([(3, 4), (2, 3)], False), ([(2, 3), (3, 4)], False), ([(3, 4), (3, 4)], True),
            ([(2, 5), (5, 12)], True), ([(2, 5), (5, 9)], False), ([(1, 6), (2, 5)], True), ([(1, 6), (2, 3)], False),
            ([(1, 6), (4, 7)], False), ([(1, 6), (5, 7)], True), ([(1, 100), (99, 100)], True),
            ([(49, 99), (50, 99)], True), ([(49, 99), (51, 100)], False), ([(1, 3), (1, 2)], False),
        ]:
            self.assert_gives(is_one_left, {"keeps": keeps}, expected)

    def test_all_lists_of_small_kept_shares(self):
        small = [(a, b) for b in range(2, 7) for a in range(1, b) if gcd(a, b) == 1]
        for length in range(4):
            for keeps in itertools.product(small, repeat=length):
                self.assertIs(is_one_left(list(keeps)), self.expected(list(keeps)))

    def test_0_to_60_kept_shares(self):
        chance = random.Random(1)
        seen = set()
        pools = [KEEPS, [(1, 3), (2, 5), (2, 7)], [(2, 3), (4, 9), (8, 27)], [(11, 13), (12, 13), (2, 13)]]
        for length in range(61):
            for pool in pools:
                keeps = [chance.choice(pool) for _ in range(length)]
                seen.add((length > 8, self.expected(keeps)))
                self.assert_gives(is_one_left, {"keeps": keeps}, self.expected(keeps))
                for last in KEEPS:
                    self.assertIs(is_one_left((keeps + [last])[-60:]), self.expected((keeps + [last])[-60:]))
        self.assertEqual(len(seen), 4)

    def test_wrong_inputs(self):
        wrong = {"keeps": (InvalidKept, wrong_lists_of_keeps())}
        self.assert_wrong_inputs(is_one_left, {"keeps": [(1, 3), (3, 4)]}, wrong)
