"""Promise [7]: top-ups; [2] and [3] where they hold for them."""

from fractions import Fraction
from math import gcd

from tests.helper import (
    GREAT, PotTest, content_of, shares_of, wrong_contents, wrong_keeps, wrong_liquids, wrong_lists_of_keeps,
    wrong_rows,
)
from topups.contents import is_content, mixed_content, pure_content
from topups.errors import InvalidContent, InvalidKept, InvalidLiquid, InvalidRow
from topups.topping import contents_along, topped, topped_by, topped_row

CONTENTS = [
    [1], [1, 0], [0, 1], [1, 1], [1, 2], [3, 0, 5], [0, 0, 1], [6, 10, 15], [1] * 8, [0, 1, 0, 2, 0, 4, 0, 9],
    [0] * 7 + [1], [GREAT, GREAT + 1], [10 ** 30 - 1, 0, 8], [3 ** 200, 2 ** 300, 0, 5],
]
KEEPS = [(1, 2), (1, 3), (2, 3), (3, 4), (7, 10), (9, 10), (1, 100), (99, 100), (98, 99)]


def behind(content, keeps, row):
    """The contents behind 0, 1 .. all top-ups, reckoned by shares."""
    shares = shares_of(content)
    contents = [content_of(shares)]
    for (stays, whole), liquid in zip(keeps, row):
        shares = [share * stays / whole for share in shares]
        shares[liquid] += Fraction(whole - stays, whole)
        contents.append(content_of(shares))
    return contents


def rows_for(content):
    count = len(content)
    return [[], [0], [count - 1], [0, 0], [count - 1, 0], [k * k % count for k in range(9)], [0] * 60,
            [k * 7 % count for k in range(60)]]


class ToppedTest(PotTest):
    def test_top_ups(self):
        for content in CONTENTS:
            for kept in KEEPS:
                for liquid in range(len(content)):
                    with self.subTest(content=content, kept=kept, liquid=liquid):
                        given = {"content": content, "kept": kept, "liquid": liquid}
                        self.assert_gives(topped, given, behind(content, [kept], [liquid])[1])

    def test_told_top_ups(self):
        self.assert_same(topped([1, 0], (1, 2), 0), [1, 0])
        self.assert_same(topped([1, 0], (1, 2), 1), [1, 1])
        self.assert_same(topped([1, 0], (1, 3), 1), [1, 2])
        self.assert_same(topped([1, 0], (1, 100), 1), [1, 99])
        self.assert_same(topped([1, 0], (99, 100), 1), [99, 1])
        self.assert_same(topped([1, 2, 4], (2, 3), 0), [9, 4, 8])
        self.assert_same(topped([1, 2], (3, 4), 0), [1, 1])
        self.assert_same(topped([1], (7, 10), 0), [1])
        self.assert_same(topped([1, 1] + [0] * 6, (1, 2), 7), [1, 1, 0, 0, 0, 0, 0, 2])

    def test_results_are_divided_by_their_greatest_divisor(self):
        self.assert_same(topped([1, 1], (2, 3), 0), [2, 1])
        self.assert_same(topped([3, 5], (2, 3), 1), [1, 3])

    def test_wrong_inputs(self):
        for content in ([1, 2, 4], [1], [1] * 8):
            valid = {"content": content, "kept": (2, 3), "liquid": 0}
            wrong = {
                "content": (InvalidContent, wrong_contents()),
                "kept": (InvalidKept, wrong_keeps()),
                "liquid": (InvalidLiquid, wrong_liquids(len(content))),
            }
            self.assert_wrong_inputs(topped, valid, wrong)

    def test_all_small_kept_shares(self):
        for a in range(-1, 104):
            for b in range(-1, 104):
                if 1 <= a < b <= 100 and gcd(a, b) == 1:
                    self.assertEqual(topped([1, 0], (a, b), 1), [a, b - a])
                else:
                    self.assert_fails(InvalidKept, topped, [1, 0], (a, b), 1)


class RowsTest(PotTest):
    def test_rows(self):
        for content in CONTENTS:
            for kept in KEEPS:
                for row in rows_for(content):
                    expected = behind(content, [kept] * len(row), row)
                    with self.subTest(content=content, kept=kept, row=row):
                        given = {"content": content, "kept": kept, "row": row}
                        self.assert_gives(topped_row, given, expected[-1])
                        self.assert_gives(contents_along, given, expected)

    def test_told_rows(self):
        self.assert_same(topped_row([1, 0], (1, 2), []), [1, 0])
        self.assert_same(topped_row([1, 0], (1, 2), [1, 1]), [1, 3])
        self.assert_same(topped_row([1, 0], (1, 2), [1, 0]), [3, 1])
        self.assert_same(topped_row([1, 0, 0], (2, 3), [1, 2]), [4, 2, 3])
        self.assert_same(contents_along([1, 0], (1, 2), []), [[1, 0]])
        self.assert_same(contents_along([1, 0], (1, 2), [1]), [[1, 0], [1, 1]])
        self.assert_same(contents_along([1, 0], (1, 2), [0, 1, 1]), [[1, 0], [1, 0], [1, 1], [1, 3]])

    def test_one_content_for_0_to_all_top_ups(self):
        for length in (0, 1, 2, 59, 60):
            self.assertEqual(len(contents_along([1, 2], (1, 2), [1] * length)), length + 1)

    def test_contents_that_stay_are_lists_of_their_own(self):
        content = [1, 0]
        contents = contents_along(content, (1, 2), [0, 0, 0])
        self.assert_same(contents, [[1, 0]] * 4)
        self.assert_new_lists(contents, [content])
        contents[0].append(9)
        self.assert_same(contents[1:], [[1, 0]] * 3)
        self.assert_same(content, [1, 0])

    def test_an_empty_row_gives_a_new_list(self):
        content = [1, 2]
        self.assertIsNot(topped_row(content, (1, 2), []), content)
        self.assertIsNot(topped_by(content, [], []), content)
        self.assertIsNot(contents_along(content, (1, 2), [])[0], content)

    def test_bottoms_of_short_histories(self):
        row = [1, 0, 2, 2, 1] * 12
        for kept in KEEPS:
            for top_ups, content in enumerate(contents_along(pure_content(3, 0), kept, row)):
                self.assertEqual(sum(content), kept[1] ** top_ups)

    def test_results_are_passed_back(self):
        content = [GREAT, 1, 0]
        for kept in [(99, 100), (1, 97), (88, 89)]:
            expected = behind(content, [kept] * 60, [0, 1, 2] * 20)[-1]
            content = topped_row(content, kept, [0, 1, 2] * 20)
            self.assert_same(content, expected)
            self.assertGreater(sum(content), 10 ** 100)
        self.assert_same(mixed_content([content, content], [1, 1]), content)
        self.assert_same(topped(content, (1, 2), 1), behind(content, [(1, 2)], [1])[-1])

    def test_wrong_inputs(self):
        for function in (topped_row, contents_along):
            for content in ([1, 2, 4], [1], [1] * 8):
                valid = {"content": content, "kept": (2, 3), "row": [0, len(content) - 1]}
                wrong = {
                    "content": (InvalidContent, wrong_contents()),
                    "kept": (InvalidKept, wrong_keeps()),
                    "row": (InvalidRow, wrong_rows(len(content))),
                }
                self.assert_wrong_inputs(function, valid, wrong)


class ToppedByTest(PotTest):
    def test_one_kept_share_for_all(self):
        for content in CONTENTS:
            for row in rows_for(content):
                given = {"content": content, "keeps": [(2, 3)] * len(row), "row": row}
                self.assert_gives(topped_by, given, topped_row(content, (2, 3), row))

    def test_each_by_its_own(self):
        for content in CONTENTS:
            for row in rows_for(content):
                keeps = [KEEPS[k * k % len(KEEPS)] for k in range(len(row))]
                given = {"content": content, "keeps": keeps, "row": row}
                with self.subTest(content=content, keeps=keeps, row=row):
                    self.assert_gives(topped_by, given, behind(content, keeps, row)[-1])

    def test_told_top_ups(self):
        self.assert_same(topped_by([1, 0], [], []), [1, 0])
        self.assert_same(topped_by([1, 0], [(1, 3), (3, 4)], [1, 1]), [1, 3])
        self.assert_same(topped_by([0, 1], [(1, 3), (3, 4)], [1, 0]), [1, 3])
        self.assert_same(topped_by([1, 0], [(3, 4), (1, 3)], [1, 0]), [11, 1])
        self.assert_same(topped_by([1, 0], [(1, 3), (3, 4)], [1, 0]), [1, 1])

    def test_60_top_ups_of_unlike_kept_shares(self):
        keeps = [(k + 1, k + 2) for k in range(60)]
        row = [k * 5 % 8 for k in range(60)]
        expected = behind([1] * 8, keeps, row)[-1]
        self.assert_gives(topped_by, {"content": [1] * 8, "keeps": keeps, "row": row}, expected)

    def test_wrong_inputs(self):
        for content in ([1, 2, 4], [1], [1] * 8):
            valid = {"content": content, "keeps": [(1, 2), (99, 100)], "row": [0, len(content) - 1]}
            unlike = [[], [0], [0, 0, 0], [0] * 60]
            wrong = {
                "content": (InvalidContent, wrong_contents()),
                "keeps": (InvalidKept, wrong_lists_of_keeps()),
                "row": (InvalidRow, wrong_rows(len(content)) + unlike),
            }
            self.assert_wrong_inputs(topped_by, valid, wrong)

    def test_keeps_and_row_of_unlike_lengths(self):
        for many in (0, 1, 59, 60):
            for other in (0, 1, 59, 60):
                if many == other:
                    self.assertTrue(is_content(topped_by([1, 0], [(1, 2)] * many, [1] * other)))
                else:
                    self.assert_fails(InvalidRow, topped_by, [1, 0], [(1, 2)] * many, [1] * other)
        self.assert_fails(InvalidKept, topped_by, [1, 0], [(1, 2)] * 61, [1] * 61)
        self.assert_fails(InvalidRow, topped_by, [1, 0], [(1, 2)] * 60, [1] * 61)
