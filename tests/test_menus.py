"""Promise [10]: menus; [2] and [3] where they hold for them."""

import itertools
import random

from tests.helper import PotTest, all_contents, pure, told_by_menus, wrong_contents, wrong_menus, wrong_numbers
from topups.errors import InvalidContent, InvalidKept, InvalidNumber, TooMany
from topups.histories import all_histories, histories_along
from topups.menus import count_by_menu, histories_by_menu
from topups.topping import topped_by

MENUS = [
    [(1, 2)], [(2, 3)], [(99, 100)], [(1, 2), (1, 3)], [(1, 2), (2, 3)], [(3, 4), (1, 2)], [(1, 100), (99, 100)],
    [(8, 9), (3, 8)], [(1, 2), (2, 3), (3, 4)], [(3, 4), (2, 3), (1, 3)], [(1, 2), (1, 4), (3, 4)],
    [(1, 2), (2, 3), (3, 4), (4, 5)], [(5, 6), (2, 3), (4, 5), (1, 2)], [(1, 2), (1, 3), (1, 4), (1, 5)],
    [(7, 10), (11, 13), (98, 99), (2, 5)],
]


def content_behind(count, start, steps, menu):
    keeps = [menu[index] for _, index in steps]
    return topped_by(pure(count, start), keeps, [liquid for liquid, _ in steps])


class MenusTest(PotTest):
    def check(self, content, menu, number, expected):
        with self.subTest(content=content, menu=menu, number=number):
            self.assert_same(count_by_menu(content, menu, number), len(expected))
            if len(expected) > 500:
                self.assert_fails(TooMany, histories_by_menu, content, menu, number)
            else:
                self.assert_same(histories_by_menu(content, menu, number), expected)

    def check_all(self, count, menu, number, bottom):
        """All contents that the top-ups lead to, and all others that have small bottoms."""
        told = told_by_menus(count, [menu] * number)
        reached = sorted(told)
        if len(reached) > 300:
            reached = reached[::len(reached) // 100] + sorted(told, key=lambda content: -len(told[content]))[:100]
        for content in sorted({tuple(content) for content in all_contents(count, bottom)} | set(reached)):
            self.check(list(content), menu, number, told.get(content, []))

    def test_against_going_through_all_top_ups(self):
        for menu in MENUS:
            for count, most in ((1, 6), (2, {1: 8, 2: 6, 3: 4, 4: 4}[len(menu)]), (3, 3), (5, 2), (8, 1)):
                for number in range(most + 1):
                    self.check_all(count, menu, number, 6)

    def test_numbers_up_to_8(self):
        self.check_all(2, [(1, 2), (2, 3)], 8, 12)
        self.check_all(2, [(3, 4), (1, 3)], 7, 12)
        self.check_all(3, [(2, 3)], 8, 9)
        self.check_all(1, [(1, 2), (1, 3), (2, 3), (3, 4)], 8, 1)
        self.check_all(2, [(1, 2), (2, 3), (3, 4)], 5, 12)

    def test_4_kept_shares_and_more_top_ups(self):
        # Going through the kept shares of each top-up, one by one, leaves what histories_along tells.
        for menu, contents in [(MENUS[11], ([1, 4], [5, 7], [1, 1, 3])), (MENUS[13], ([1, 2, 5], [13, 7]))]:
            for content in contents:
                expected = []
                for indices in itertools.product(range(4), repeat=5):
                    for start, row in histories_along(content, [menu[index] for index in indices]):
                        expected.append((start, list(zip(row, indices))))
                self.check(content, menu, 5, sorted(expected))

    def test_what_is_told_leads_to_the_content(self):
        chance = random.Random(10)
        for menu in MENUS:
            for count in (2, 3, 5, 8):
                for number in range(9):
                    row = [(chance.randrange(count), chance.randrange(len(menu))) for _ in range(number)]
                    start = chance.randrange(count)
                    content = content_behind(count, start, row, menu)
                    many = count_by_menu(content, menu, number)
                    if many > 500:
                        self.assert_fails(TooMany, histories_by_menu, content, menu, number)
                        continue
                    found = histories_by_menu(content, menu, number)
                    self.assertIn((start, row), found)
                    self.assertEqual(found, sorted(found))
                    self.assertEqual(len({(other, *steps) for other, steps in found}), many)
                    for other, steps in found:
                        self.assertEqual(len(steps), number)
                        self.assertEqual(content_behind(count, other, steps, menu), content)

    def test_lists_and_arguments(self):
        for content, menu, number in [
            ([1, 1], [(1, 2), (2, 3)], 3), ([1, 0], [(1, 2), (2, 3)], 4), ([2, 1, 1], [(1, 2), (3, 4), (2, 3)], 2),
            ([0, 1, 0], [(1, 2)], 0), ([1, 1], [(1, 2)], 0), ([1], [(1, 2), (1, 3)], 8), ([1, 6], [(1, 2)], 3),
        ]:
            expected = told_by_menus(len(content), [menu] * number).get(tuple(content), [])
            given = {"content": content, "menu": menu, "number": number}
            self.assert_gives(histories_by_menu, given, expected)
            self.assert_gives(count_by_menu, given, len(expected))

    def test_told_histories(self):
        self.assert_same(histories_by_menu([0, 1], [(1, 2)], 0), [(1, [])])
        self.assert_same(histories_by_menu([1, 1], [(1, 2)], 1), [(0, [(1, 0)]), (1, [(0, 0)])])
        self.assert_same(histories_by_menu([2, 1], [(1, 3), (2, 3)], 1), [(0, [(1, 1)]), (1, [(0, 0)])])
        self.assert_same(histories_by_menu([2, 1], [(2, 3), (1, 3)], 1), [(0, [(1, 0)]), (1, [(0, 1)])])
        self.assert_same(histories_by_menu([1], [(2, 3), (1, 3)], 1), [(0, [(0, 0)]), (0, [(0, 1)])])
        self.assert_same(histories_by_menu([2, 1], [(1, 2), (3, 4)], 8), [])
        self.assert_same(count_by_menu([2, 1], [(1, 2), (3, 4)], 8), 0)
        self.assert_same(count_by_menu([1, 1], [(1, 2)], 1), 2)

    def test_one_kept_share_alone(self):
        for kept in [(1, 2), (2, 3), (1, 100), (7, 10)]:
            for row in ([], [1], [2, 1], [0, 1, 2, 2, 1]):
                content = topped_by([1, 0, 0], [kept] * len(row), row)
                for number in range(9):
                    histories = all_histories(content, kept, number)
                    expected = [(start, [(liquid, 0) for liquid in steps]) for start, steps in histories]
                    self.check(content, [kept], number, expected)

    def test_just_500_and_more(self):
        found = histories_by_menu([39, 25], [(1, 2), (3, 4), (1, 3), (4, 5)], 6)
        self.assertEqual(len(found), 500)
        self.assert_same(count_by_menu([39, 25], [(1, 2), (3, 4), (1, 3), (4, 5)], 6), 500)
        menu = [(2, 3), (4, 5), (1, 2), (1, 4)]
        told = told_by_menus(3, [menu] * 4)
        self.check([5, 0, 1], menu, 4, told.get((5, 0, 1), []))
        self.assert_same(count_by_menu([5, 0, 1], menu, 5), 501)
        self.assert_fails(TooMany, histories_by_menu, [5, 0, 1], menu, 5)

    def test_counts_have_no_limit(self):
        for menu in MENUS:
            for count in (1, 2, 8):
                content = pure(count, count - 1)
                self.assert_same(count_by_menu(content, menu, 8), len(menu) ** 8)
                if len(menu) > 2:
                    given = {"content": content, "menu": menu, "number": 8}
                    self.assert_fails_both_ways(TooMany, histories_by_menu, given)

    def test_wrong_inputs(self):
        wrong = {
            "content": (InvalidContent, wrong_contents()),
            "menu": (InvalidKept, wrong_menus()),
            "number": (InvalidNumber, wrong_numbers(8)),
        }
        menus = ([(1, 2)], [(1, 2), (1, 3)], [(1, 2), (2, 3), (3, 4), (4, 5)])
        for function in (histories_by_menu, count_by_menu):
            for content, menu, number in (([1, 1], menus[0], 1), ([1], menus[1], 2), ([1, 0], menus[2], 8)):
                self.assert_wrong_inputs(function, {"content": content, "menu": menu, "number": number}, wrong)
