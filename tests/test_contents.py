"""Promise [6]: contents; [2] and [3] where they hold for them."""

import itertools
from fractions import Fraction
from math import gcd

from tests.helper import GREAT, PotTest, no_lists, wrong_contents, wrong_liquids, wrong_lists_of_amounts
from topups.contents import bottom_of, is_content, mixed_content, pure_content, reduced_content, share_of
from topups.errors import InvalidContent, InvalidLiquid, InvalidNumber, InvalidNumbers

CONTENTS = [
    [1], [1, 0], [0, 1], [0, 0, 1], [1, 1], [1, 2], [3, 0, 5], [6, 10, 15], [0, 1, 0, 2, 0, 4, 0, 9], [1] * 8,
    [0] * 7 + [1], [1] + [0] * 7, [GREAT, GREAT + 1], [1, GREAT, 0], [10 ** 30 - 1, 10 ** 30 - 2, 7],
    [3 ** 200, 2 ** 300, 0, 5],
]


def shares(numbers):
    return [Fraction(number, sum(numbers)) for number in numbers]


def mixed_shares(contents, weights):
    all_shares = [shares(content) for content in contents]
    return [
        sum(weight * row[liquid] for weight, row in zip(weights, all_shares)) / sum(weights)
        for liquid in range(len(contents[0]))
    ]


class IsContentTest(PotTest):
    def test_contents(self):
        for content in CONTENTS:
            with self.subTest(content=content):
                self.assert_gives(is_content, {"thing": content}, True)

    def test_any_other_object(self):
        for thing in wrong_contents():
            with self.subTest(thing=thing):
                before = repr(thing)
                self.assertIs(is_content(thing), False)
                self.assertIs(is_content(thing=thing), False)
                self.assertEqual(repr(thing), before)

    def test_all_small_lists(self):
        for length in range(1, 5):
            for numbers in itertools.product(range(-1, 5), repeat=length):
                expected = min(numbers) >= 0 and gcd(*numbers) == 1
                self.assertIs(is_content(list(numbers)), expected)
                self.assertIs(is_content(numbers), False)


class BottomTest(PotTest):
    def test_bottoms(self):
        for content in CONTENTS:
            with self.subTest(content=content):
                self.assert_gives(bottom_of, {"content": content}, sum(content))

    def test_told_bottoms(self):
        self.assertEqual(bottom_of([1, 0]), 1)
        self.assertEqual(bottom_of([6, 10, 15]), 31)
        self.assertEqual(bottom_of([GREAT, 1]), GREAT + 1)

    def test_wrong_inputs(self):
        self.assert_wrong_inputs(bottom_of, {"content": [1, 2]}, {"content": (InvalidContent, wrong_contents())})


class ShareTest(PotTest):
    def test_shares(self):
        for content in CONTENTS:
            for liquid, share in enumerate(shares(content)):
                with self.subTest(content=content, liquid=liquid):
                    given = {"content": content, "liquid": liquid}
                    self.assert_gives(share_of, given, (share.numerator, share.denominator))

    def test_told_shares(self):
        self.assert_same(share_of([1, 2, 3], 0), (1, 6))
        self.assert_same(share_of([1, 2, 3], 1), (1, 3))
        self.assert_same(share_of([1, 2, 3], 2), (1, 2))
        self.assert_same(share_of([0, 1], 0), (0, 1))
        self.assert_same(share_of([0, 1], 1), (1, 1))
        self.assert_same(share_of([0, 2, 5], 0), (0, 1))

    def test_wrong_inputs(self):
        for content in ([1, 2, 4], [1], [1] * 8):
            valid = {"content": content, "liquid": 0}
            wrong = {
                "content": (InvalidContent, wrong_contents()),
                "liquid": (InvalidLiquid, wrong_liquids(len(content))),
            }
            self.assert_wrong_inputs(share_of, valid, wrong)


class PureContentTest(PotTest):
    def test_pure_contents(self):
        for count in range(1, 9):
            for liquid in range(count):
                expected = [0] * liquid + [1] + [0] * (count - liquid - 1)
                self.assert_gives(pure_content, {"count": count, "liquid": liquid}, expected)

    def test_wrong_inputs(self):
        for count in (1, 2, 8):
            valid = {"count": count, "liquid": 0}
            wrong = {
                "count": (InvalidNumber, [0, 9, 10, -1, -8, GREAT, -GREAT, True, False]),
                "liquid": (InvalidLiquid, wrong_liquids(count)),
            }
            self.assert_wrong_inputs(pure_content, valid, wrong)


class ReducedContentTest(PotTest):
    def test_contents_stay(self):
        for content in CONTENTS:
            with self.subTest(content=content):
                self.assert_gives(reduced_content, {"numbers": content}, content)

    def test_common_divisors(self):
        for content in CONTENTS:
            for factor in (2, 12, 97, GREAT):
                numbers = [factor * number for number in content]
                self.assert_gives(reduced_content, {"numbers": numbers}, content)

    def test_told_contents(self):
        self.assert_same(reduced_content([4, 6]), [2, 3])
        self.assert_same(reduced_content([0, 6, 0]), [0, 1, 0])
        self.assert_same(reduced_content([7]), [1])
        self.assert_same(reduced_content([12, 20, 30]), [6, 10, 15])
        self.assert_same(reduced_content([5] * 8), [1] * 8)

    def test_wrong_inputs(self):
        wrong = {"numbers": (InvalidNumbers, wrong_lists_of_amounts())}
        self.assert_wrong_inputs(reduced_content, {"numbers": [2, 4]}, wrong)


class MixedContentTest(PotTest):
    def check_mixture(self, contents, weights):
        mixture = mixed_content(contents, weights)
        self.assertEqual(shares(mixture), mixed_shares(contents, weights))
        self.assertEqual(gcd(*mixture), 1)
        self.assertIs(is_content(mixture), True)
        self.assert_gives(mixed_content, {"contents": contents, "weights": weights}, mixture)

    def test_told_mixtures(self):
        self.assert_same(mixed_content([[1, 0], [0, 1]], [1, 1]), [1, 1])
        self.assert_same(mixed_content([[1, 0], [0, 1]], [2, 4]), [1, 2])
        self.assert_same(mixed_content([[1, 1], [0, 1]], [1, 1]), [1, 3])
        self.assert_same(mixed_content([[1, 2], [3, 1]], [1, 1]), [13, 11])
        self.assert_same(mixed_content([[1, 1], [1, 3]], [2, 0]), [1, 1])
        self.assert_same(mixed_content([[1, 0, 0], [1, 0, 2]], [1, 3]), [1, 0, 1])

    def test_one_content_alone(self):
        for content in CONTENTS:
            for weight in (1, 2, GREAT):
                self.assert_gives(mixed_content, {"contents": [content], "weights": [weight]}, content)

    def test_weights_that_are_0(self):
        contents = [[1, 2], [5, 1], [0, 1]]
        for at in range(3):
            for weight in (1, 6, GREAT):
                weights = [0, 0, 0]
                weights[at] = weight
                self.assert_same(mixed_content(contents, weights), contents[at])
        self.check_mixture(contents, [0, 1, 5])

    def test_one_list_several_times(self):
        content = [3, 0, 5]
        self.assert_same(mixed_content([content, content], [1, 4]), [3, 0, 5])
        self.assert_same(content, [3, 0, 5])

    def test_mixtures(self):
        for contents in itertools.product([[1, 0], [0, 1], [1, 1], [1, 2], [5, 4]], repeat=3):
            self.check_mixture(list(contents), [1, 2, 3])
            self.check_mixture(list(contents), [6, 0, 10])

    def test_8_contents_of_8_liquids(self):
        contents = [[0] * at + [1] + [at] * (7 - at) for at in range(8)]
        self.check_mixture(contents, [1] * 8)
        self.check_mixture(contents, list(range(8)))
        self.check_mixture(contents, [GREAT + at for at in range(8)])
        self.assert_same(mixed_content([pure_content(8, at) for at in range(8)], [3] * 8), [1] * 8)

    def test_great_numbers(self):
        contents = [[GREAT, 1, 0], [10 ** 30 - 1, 0, 8], [1, 1, GREAT]]
        self.check_mixture(contents, [GREAT, 1, 10 ** 29])
        mixture = contents[0]
        for other in contents:
            mixture = mixed_content([mixture, other], [GREAT, 11])
            self.check_mixture([mixture, other], [1, 3])

    def test_wrong_inputs(self):
        valid = {"contents": [[1, 2], [0, 1]], "weights": [1, 2]}
        lists = [[thing, [0, 1]] for thing in wrong_contents()] + [[[1, 2], thing] for thing in wrong_contents()]
        unlike = [[[1, 2], [1]], [[1], [1, 2]], [[1, 2], [1, 2, 3]], [[1, 0, 0], [1, 0], [1, 0, 0]]]
        count = [[], [[1, 2]] * 9, [[1, 2]] * 4000]
        kinds = no_lists() + [(), ([1, 2], [0, 1]), ((1, 2), (0, 1)), [1, 2], [(1, 2), (0, 1)], [[1, 2], (0, 1)]]
        weights = wrong_lists_of_amounts() + [[1], [1, 2, 3], [1, 0, 0], [1] * 8]
        wrong = {
            "contents": (InvalidContent, kinds + lists + count + unlike),
            "weights": (InvalidNumbers, weights),
        }
        self.assert_wrong_inputs(mixed_content, valid, wrong)

    def test_weights_need_no_lowest_terms(self):
        self.assert_same(mixed_content([[1, 2], [0, 1]], [2, 4]), mixed_content([[1, 2], [0, 1]], [1, 2]))
