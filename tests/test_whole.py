"""The whole program: what one promise says of another holds over all of them."""

import random
from fractions import Fraction

from tests.helper import PotTest, no_lists, pair, pure
from topups.contents import is_content, mixed_content, share_of
from topups.counts import content_index, count_between, nth_content
from topups.cups import carried, cups_row, to_and_fro
from topups.endless import distance_after, limit_of, limits_along, row_of_limit, rounds_within
from topups.errors import PotError
from topups.histories import all_histories, histories_along, history_of
from topups.live import Pot
from topups.menus import histories_by_menu
from topups.reach import fewest_at_least, fewest_between, shows_between
from topups.session import session
from topups.strengths import histories_of_strength, strength_of, strengths_differ, uses_of_share
from topups.texts import read_content, read_history, read_row, write_content, write_history, write_row
from topups.topping import contents_along, topped, topped_by, topped_row

KEEPS = [(1, 2), (1, 3), (2, 3), (3, 4), (3, 5), (7, 10), (1, 100), (99, 100)]


def some_pots(seed, most):
    """Pots with up to so many top-ups, by one kept share or by several."""
    chance = random.Random(seed)
    for _ in range(150):
        count = chance.randint(1, 8)
        pot = Pot(count, chance.randrange(count), chance.choice(KEEPS))
        for _ in range(chance.randint(0, most)):
            if chance.random() < 0.2:
                pot.keep(chance.choice(KEEPS))
            pot.top_up(chance.randrange(count))
        yield pot


def liquids(pot):
    return [liquid for liquid, _ in pot.past]


def keeps(pot):
    return [kept for _, kept in pot.past]


class PotsTest(PotTest):
    def test_what_a_pot_did_is_among_its_histories(self):
        for pot in some_pots(1, 5):
            self.assertIn((pot.start, liquids(pot)), pot.histories())
            self.assertEqual(pot.histories(), histories_along(pot.content, keeps(pot)))
            self.assertEqual(pot.content, topped_by(pure(pot.liquids, pot.start), keeps(pot), liquids(pot)))

    def test_what_a_pot_did_is_among_those_by_a_menu(self):
        for pot in some_pots(2, 3):
            menu = sorted(set(keeps(pot))) or [(1, 2)]
            steps = [(liquid, menu.index(kept)) for liquid, kept in pot.past]
            self.assertIn((pot.start, steps), histories_by_menu(pot.content, menu, len(steps)))

    def test_one_kept_share(self):
        chance = random.Random(3)
        for kept in KEEPS:
            for number in range(8):
                pot = Pot(3, chance.randrange(3), kept)
                pot.pour([chance.randrange(3) for _ in range(number)])
                told = (pot.start, liquids(pot))
                self.assertIn(told, all_histories(pot.content, kept, number))
                self.assertEqual(all_histories(pot.content, kept, number), pot.histories())
                index = content_index(pot.content, kept, pot.start, number)
                self.assertEqual(nth_content(3, kept, pot.start, number, index), pot.content)
                strengths = [0, 1, kept[0] * 5 + 2]
                if strengths_differ(strengths, kept):
                    self.assertEqual(histories_of_strength(pot.strength(strengths), strengths, kept, number), [told])
                share = share_of(pot.content, 2)
                if pot.start != 2:
                    self.assertEqual(uses_of_share(share, kept, number), [liquid == 2 for liquid in liquids(pot)])
                self.assertGreaterEqual(count_between(3, kept, pot.start, number, 2, share, share), 1)

    def test_texts_of_what_pots_tell_read_back(self):
        for pot in some_pots(4, 5):
            if all(len(str(amount)) <= 30 for amount in pot.content):
                self.assert_same(read_content(write_content(pot.content)), pot.content)
            self.assert_same(read_row(write_row(liquids(pot))), liquids(pot))
            for history in pot.histories():
                self.assert_same(read_history(write_history(history)), history)
            history = history_of(pot.content, pot.kept)
            if history is not None:
                self.assert_same(read_history(write_history(history)), history)

    def test_a_session_tells_what_the_functions_tell(self):
        for pot in some_pots(5, 9):
            keep = keeps(pot) + [pot.kept]
            lines = [f"pot {pot.liquids} {pot.start} {keep[0][0]} {keep[0][1]}"]
            for (liquid, _), (stays, whole) in zip(pot.past, keep):
                lines += [f"keep {stays} {whole}", f"top {liquid}"]
            lines += [f"keep {pot.kept[0]} {pot.kept[1]}"]
            strengths = [5 - 3 * liquid for liquid in range(pot.liquids)]
            history = history_of(pot.content, pot.kept)
            told = {
                "content": write_content(pot.content), "past": write_row(liquids(pot)),
                "history": "none" if history is None else write_history(history),
                "strength " + " ".join(map(str, strengths)): "{}/{}".format(*strength_of(pot.content, strengths)),
            }
            for liquid in range(pot.liquids):
                told[f"share {liquid}"] = "{}/{}".format(*share_of(pot.content, liquid))
            answers = session("\n".join(lines + list(told))).split("\n")
            self.assertEqual(answers, ["ok"] * len(lines) + list(told.values()))

    def test_uses_that_reach_a_share(self):
        chance = random.Random(6)
        for kept in KEEPS:
            for number in range(9):
                pot = Pot(2, 0, kept)
                pot.pour([chance.randrange(2) for _ in range(number)])
                share = share_of(pot.content, 1)
                if share[1] > 10 ** 6:
                    continue
                uses = fewest_between([1, 0], kept, 1, share, share)
                self.assertEqual(shows_between([1, 0], kept, 1, share, share, uses), True)
                self.assertLessEqual(len(uses), number)
                self.assertEqual(share_of(topped_row([1, 0], kept, [int(use) for use in uses]), 1), share)
                self.assertLessEqual(fewest_at_least([1, 0], kept, 1, share), len(uses))


class OtherPromisesTest(PotTest):
    def test_a_cup_to_and_fro_with_a_pure_pot_is_a_top_up(self):
        chance = random.Random(7)
        for poured, whole in [(1, 1), (1, 2), (2, 3), (1, 99), (50, 50), (49, 51), (33, 67), (7, 10)]:
            cup = (poured // 50, whole // 50) if poured == whole == 50 else (poured, whole)
            kept = (cup[1], cup[0] + cup[1])
            for count in (1, 2, 5, 8):
                for _ in range(5):
                    content = nth_content(count, (2, 3), 0, 9, chance.randrange(count ** 9))
                    liquid = chance.randrange(count)
                    first, second = to_and_fro(pure(count, liquid), content, cup)
                    self.assert_same(second, topped(content, kept, liquid))
                    part = Fraction(*cup)
                    weights = [(1 - part).numerator, (1 - part).denominator - (1 - part).numerator]
                    self.assert_same(first, mixed_content([pure(count, liquid), second], weights))
                    self.assert_same(cups_row([pure(count, liquid), content], [(0, 1, cup)]), [first, second])
                    self.assert_same(carried(cup), pair(1 - Fraction(*kept)))

    def test_limits_are_led_back_to(self):
        chance = random.Random(8)
        for kept in KEEPS:
            for length in (1, 2, 5, 9):
                row = [chance.randrange(3) for _ in range(length)]
                limit = limit_of(3, row, kept)
                self.assertEqual(contents_along(limit, kept, row), [*limits_along(3, row, kept), limit])
                self.assertEqual(row_of_limit(limit, kept, length), row)
                self.assertEqual(distance_after(limit, row, kept, 7), (0, 1))
                self.assertEqual(rounds_within(limit, row, kept, (0, 1)), 0)

    def test_returned_values_may_be_passed_back(self):
        content = [1, 0, 0]
        for _ in range(5):
            content = topped_row(content, (99, 100), [0, 1, 2] * 20)
            self.assertTrue(is_content(content))
        self.assertEqual(len(history_of(content, (99, 100))[1]), 299)
        self.assertEqual(read_row("0 1 2"), [0, 1, 2])
        first, second = to_and_fro(content, [1, 2, 4], (1, 3))
        self.assertEqual(topped_by(second, [], []), second)
        self.assertEqual(strength_of(first, [3, 3, 3]), (3, 1))
        self.assertTrue(all(text.isdigit() for text in write_content(first).split(" ")))

    def test_pots_are_objects_like_others(self):
        for thing in no_lists() + [[Pot(1, 0, (1, 2))], (Pot(1, 0, (1, 2)), 2), {"a": Pot(1, 0, (1, 2))}]:
            self.assertIs(is_content(thing), False)
            with self.assertRaises(PotError):
                topped_row([1, 2], (1, 2), thing)
            self.assertIs(shows_between([1, 0], (1, 2), 0, (1, 4), (1, 4), thing), False)
