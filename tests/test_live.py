"""Promise [15]: live pots; [2], [3] and [4] where they hold for them."""

import copy
import random

from tests.helper import (
    GREAT, Model, PotTest, lists_in, pure, spoil, wrong_indices, wrong_keeps, wrong_liquids, wrong_numbers, wrong_rows,
    wrong_strengths,
)
from topups.errors import (
    InvalidIndex, InvalidKept, InvalidLiquid, InvalidNumber, InvalidRow, InvalidStrengths, NothingToUndo, PotError,
    TooMany,
)
from topups.histories import all_histories, histories_along
from topups.live import Pot
from topups.strengths import strength_of
from topups.topping import topped_row

KEEPS = [(1, 2), (1, 3), (2, 3), (3, 4), (7, 10), (1, 100), (99, 100)]


def told_or_error(function, *args):
    try:
        return function(*args)
    except PotError as error:
        return type(error)


class PotCase(PotTest):
    def assert_tells(self, pot, model):
        kept, past = model.now
        content = model.content()
        self.assert_same(pot.liquids, model.count)
        self.assert_same(pot.start, model.start)
        self.assert_same(pot.kept, kept)
        self.assert_same(pot.content, content)
        self.assert_same(pot.past, past)
        self.assert_same(pot.mark(), len(model.before))
        self.assert_same(len(pot), len(model.before))
        strengths = [7 - 3 * liquid for liquid in range(model.count)]
        self.assert_same(pot.strength(strengths), strength_of(content, strengths))

    def assert_same_histories(self, pot, model):
        keeps = [kept for _, kept in model.now[1]]
        self.assert_same(told_or_error(pot.histories), told_or_error(histories_along, model.content(), keeps))

    def assert_call_fails(self, error, pot, name, *args, **named):
        """The call fails, and the pot tells what it told before, also behind an undone call."""
        before = told_by(pot)
        self.assert_fails(error, getattr(pot, name), *args, **named)
        self.assert_same(told_by(pot), before)


def told_by(pot):
    """All that a pot tells, at present and behind undoing its calls one by one."""
    twin = pot.twin()
    told = []
    while True:
        told.append((twin.liquids, twin.start, twin.kept, twin.content, twin.past, twin.mark(), len(twin)))
        if len(twin) == 0:
            return told
        twin.undo()


def do_one(pot, model, chance):
    """One call of any kind on both; they return None."""
    kind = chance.choice(("top_up", "top_up", "pour", "keep", "undo", "undo_to"))
    if kind == "top_up":
        liquid = chance.randrange(model.count)
        model.pour([liquid])
        return pot.top_up(liquid)
    if kind == "pour":
        row = [chance.randrange(model.count) for _ in range(chance.randrange(4))]
        model.pour(row)
        return pot.pour(row)
    if kind == "keep":
        kept = chance.choice(KEEPS)
        model.keep(kept)
        return pot.keep(kept)
    if kind == "undo" and model.before:
        model.undo_to(len(model.before) - 1)
        return pot.undo()
    index = chance.randint(max(0, len(model.before) - 3), len(model.before))
    model.undo_to(index)
    return pot.undo_to(index)


class NewPotTest(PotCase):
    def test_pure_pots(self):
        for count in range(1, 9):
            for start in range(count):
                for kept in KEEPS:
                    pot = Pot(count, start, kept)
                    self.assert_tells(pot, Model(count, start, kept))
                    self.assert_tells(Pot(kept=kept, count=count, start=start), Model(count, start, kept))
                    self.assert_same(pot.histories(), [(start, [])])
                    self.assert_call_fails(NothingToUndo, pot, "undo")
                    pot.undo_to(0)
                    self.assert_tells(pot, Model(count, start, kept))

    def test_wrong_inputs(self):
        for count, start in ((1, 0), (3, 2), (8, 7)):
            wrong = {
                "count": (InvalidNumber, [0, *wrong_numbers(8)]),
                "start": (InvalidLiquid, wrong_liquids(count)),
                "kept": (InvalidKept, wrong_keeps()),
            }
            self.assert_wrong_inputs(Pot, {"count": count, "start": start, "kept": (2, 3)}, wrong)


class CallsTest(PotCase):
    def test_each_call_is_one_call(self):
        pot, model = Pot(3, 0, (1, 2)), Model(3, 0, (1, 2))
        for name, thing in [("pour", [1]), ("pour", []), ("keep", (2, 3)), ("keep", (2, 3)), ("pour", [0, 1, 2, 0])]:
            self.assertIsNone(getattr(pot, name)(thing))
            getattr(model, name)(thing)
            self.assert_tells(pot, model)
            self.assert_same_histories(pot, model)
        self.assertIsNone(pot.top_up(2))
        model.pour([2])
        self.assert_tells(pot, model)
        self.assert_same(pot.mark(), 6)
        for left in range(5, -1, -1):
            self.assertIsNone(pot.undo())
            model.undo_to(left)
            self.assert_tells(pot, model)
        self.assert_call_fails(NothingToUndo, pot, "undo")

    def test_told_pots(self):
        pot = Pot(2, 0, (1, 2))
        pot.top_up(1)
        self.assert_same(pot.content, [1, 1])
        self.assert_same(pot.histories(), [(0, [1]), (1, [0])])
        pot.keep((2, 3))
        pot.pour([1, 0])
        self.assert_same(pot.content, [5, 4])
        self.assert_same(pot.past, [(1, (1, 2)), (1, (2, 3)), (0, (2, 3))])
        self.assert_same(pot.strength([0, 9]), (4, 1))
        self.assert_same(pot.strength([-1, 0]), (-5, 9))
        self.assert_same((pot.liquids, pot.start, pot.kept, pot.mark(), len(pot)), (2, 0, (2, 3), 3, 3))
        pot.undo()
        self.assert_same((pot.content, pot.kept, pot.past, len(pot)), ([1, 1], (2, 3), [(1, (1, 2))], 2))
        pot.undo()
        self.assert_same((pot.content, pot.kept, pot.past, len(pot)), ([1, 1], (1, 2), [(1, (1, 2))], 1))

    def test_by_name(self):
        pot, model = Pot(3, 1, (1, 2)), Model(3, 1, (1, 2))
        pot.top_up(liquid=2)
        model.pour([2])
        pot.pour(row=[0, 0])
        model.pour([0, 0])
        pot.keep(kept=(3, 4))
        model.keep((3, 4))
        self.assert_tells(pot, model)
        self.assert_same(pot.strength(strengths=[1, 2, 3]), strength_of(model.content(), [1, 2, 3]))
        pot.undo_to(index=1)
        model.undo_to(1)
        self.assert_tells(pot, model)

    def test_any_calls(self):
        chance = random.Random(15)
        for count in range(1, 9):
            for kept in KEEPS:
                start = chance.randrange(count)
                pot, model = Pot(count, start, kept), Model(count, start, kept)
                for _ in range(40):
                    self.assertIsNone(do_one(pot, model, chance))
                    self.assert_tells(pot, model)
                    if len(model.now[1]) <= 5:
                        self.assert_same_histories(pot, model)

    def test_undo_to_each_index(self):
        chance = random.Random(16)
        for length in (0, 1, 2, 7):
            for index in range(length + 1):
                pot, model = Pot(3, 0, (1, 2)), Model(3, 0, (1, 2))
                for number in range(length):
                    self.do_number(pot, model, number, chance)
                self.assert_call_fails(InvalidIndex, pot, "undo_to", length + 1)
                self.assertIsNone(pot.undo_to(index))
                model.undo_to(index)
                self.assert_tells(pot, model)
                self.assert_call_fails(InvalidIndex, pot, "undo_to", index + 1)

    def do_number(self, pot, model, number, chance):
        if number % 3 == 2:
            kept = chance.choice(KEEPS)
            pot.keep(kept)
            return model.keep(kept)
        row = [chance.randrange(model.count) for _ in range(number % 3)]
        pot.pour(row)
        return model.pour(row)

    def test_60_calls_and_60_top_ups(self):
        chance = random.Random(17)
        for kept in KEEPS:
            pot, model = Pot(8, 3, kept), Model(8, 3, kept)
            for _ in range(60):
                liquid = chance.randrange(8)
                pot.top_up(liquid)
                model.pour([liquid])
            self.assert_tells(pot, model)
            self.assert_same_histories(pot, model)
            pot.undo_to(30)
            model.undo_to(30)
            self.assert_tells(pot, model)
            row = [chance.randrange(8) for _ in range(60)]
            pot = Pot(8, 3, kept)
            pot.pour(row)
            self.assert_same(pot.content, topped_row(pure(8, 3), kept, row))
            self.assert_same(len(pot), 1)
        pot, model = Pot(2, 0, (1, 2)), Model(2, 0, (1, 2))
        for at in range(60):
            pot.keep(KEEPS[at % 7])
            model.keep(KEEPS[at % 7])
        self.assert_tells(pot, model)

    def test_histories_and_their_errors(self):
        pot = Pot(2, 0, (1, 2))
        pot.pour([1] * 8)
        self.assert_same(pot.histories(), [(0, [1] * 8), (1, [0] + [1] * 7)])
        pot.top_up(1)
        self.assert_call_fails(InvalidKept, pot, "histories")
        pot = Pot(3, 2, (2, 3))
        pot.pour([0, 1] * 4)
        self.assert_same(pot.histories(), all_histories(pot.content, (2, 3), 8))
        pot.pour([0, 1] * 26)
        self.assert_same(pot.histories(), all_histories(pot.content, (2, 3), 60))
        pot = Pot(3, 2, (2, 3))
        pot.pour([0, 1] * 4)
        pot.keep((3, 4))
        pot.top_up(0)
        self.assert_call_fails(InvalidKept, pot, "histories")
        pot.undo()
        self.assert_same(pot.histories(), all_histories(pot.content, (2, 3), 8))
        pot = Pot(3, 2, (1, 3))
        pot.pour([0, 1] * 30)
        self.assert_same(pot.histories(), [(2, [0, 1] * 30)])

    def test_too_many_histories(self):
        pot = Pot(8, 0, (1, 2))
        for liquid in range(1, 8):
            pot.keep((liquid, liquid + 1))
            pot.top_up(liquid)
        self.assert_same(pot.content, [1] * 8)
        self.assert_call_fails(TooMany, pot, "histories")
        self.assert_same(len(pot), 14)


class ErrorsTest(PotCase):
    def pots(self):
        for count in (1, 3, 8):
            pot = Pot(count, 0, (2, 3))
            yield pot, count
            pot = Pot(count, count - 1, (1, 2))
            pot.pour([0, count - 1, 0])
            pot.keep((3, 4))
            pot.top_up(0)
            yield pot, count

    def check(self, pot, name, argument, error, values):
        for value in values:
            with self.subTest(name=name, value=value):
                before = repr(value)
                self.assert_call_fails(error, pot, name, value)
                self.assert_call_fails(error, pot, name, **{argument: value})
                self.assertEqual(repr(value), before)

    def test_wrong_inputs(self):
        for pot, count in self.pots():
            self.check(pot, "top_up", "liquid", InvalidLiquid, wrong_liquids(count))
            self.check(pot, "pour", "row", InvalidRow, wrong_rows(count))
            self.check(pot, "keep", "kept", InvalidKept, wrong_keeps())
            self.check(pot, "undo_to", "index", InvalidIndex, wrong_indices(len(pot)))
            self.check(pot, "strength", "strengths", InvalidStrengths, wrong_strengths())
            others = [[0] * length for length in range(1, 9) if length != count]
            self.check(pot, "strength", "strengths", InvalidStrengths, others)


class TwinTest(PotCase):
    def test_twins_go_their_own_ways(self):
        chance = random.Random(18)
        for count in (1, 2, 5):
            pots = [(Pot(count, 0, (1, 2)), Model(count, 0, (1, 2)))]
            for _ in range(120):
                pot, model = chance.choice(pots)
                do_one(pot, model, chance)
                if chance.random() < 0.1:
                    pots.append((pot.twin(), model.twin()))
                for pot, model in pots:
                    self.assert_tells(pot, model)

    def test_a_twin_can_be_undone_as_far(self):
        pot = Pot(3, 1, (1, 2))
        pot.pour([0, 2])
        pot.keep((2, 3))
        pot.top_up(1)
        twin = pot.twin()
        self.assertIsInstance(twin, Pot)
        self.assertIsNot(twin, pot)
        self.assert_same(told_by(twin), told_by(pot))
        before = told_by(pot)
        twin.undo_to(0)
        self.assert_same(twin.content, [0, 1, 0])
        self.assert_same(told_by(pot), before)
        twin = pot.twin()
        pot.undo_to(0)
        self.assert_same(told_by(twin), before)

    def test_compared_by_identity(self):
        pot, other = Pot(2, 0, (1, 2)), Pot(2, 0, (1, 2))
        self.assertEqual(pot, pot)
        self.assertNotEqual(pot, other)
        self.assertNotEqual(pot, pot.twin())
        self.assertEqual(len({pot, other, pot.twin(), pot}), 3)
        self.assertIn(pot, [other, pot])
        self.assertNotIn(pot, [other, pot.twin()])
        pot.top_up(1)
        self.assertEqual({pot: 1}[pot], 1)


class ListsTest(PotCase):
    def test_told_lists_may_be_changed(self):
        pot = Pot(3, 1, (1, 2))
        row = [0, 2]
        pot.pour(row)
        row.append(1)
        pot.keep((2, 3))
        pot.pour(row)
        before = copy.deepcopy(told_by(pot))
        histories = copy.deepcopy(pot.histories())
        spoil(row)
        for _ in range(2):
            told = [pot.content, pot.content, pot.past, pot.past, pot.histories(), pot.histories()]
            told += [pot.twin().content, pot.twin().past]
            self.assertEqual(len({id(each) for each in lists_in(told)}), len(lists_in(told)))
            spoil(told)
            self.assert_same(told_by(pot), before)
            self.assert_same(pot.histories(), histories)

    def test_arguments_are_as_before(self):
        pot = Pot(3, 1, (1, 2))
        row, strengths = [0, 2, 2], [5, GREAT, -1]
        pot.pour(row)
        self.assert_same(row, [0, 2, 2])
        first = pot.strength(strengths)
        self.assert_same(strengths, [5, GREAT, -1])
        spoil(strengths)
        self.assert_same(pot.strength([5, GREAT, -1]), first)
