"""What the tests share: wrong objects of each kind, and how every function is asked with them."""

import copy
import itertools
import unittest
from fractions import Fraction
from math import gcd, lcm

from topups.errors import InvalidContent, InvalidText, PotError
from topups.live import Pot
from topups.topping import topped_by

GREAT = 123456789012345678901234567890
MOST_BOTTOM = 10 ** 6


def nested(depth):
    thing = []
    for _ in range(depth):
        thing = [thing]
    return thing


def no_lists():
    """Objects that are no list and no tuple."""
    return [
        0, 1, -1, GREAT, -GREAT, True, False, "", "1", "1 2", "[1, 2]", "\n", None, PotError("1"),
        InvalidContent("1 2"), InvalidText(1), Pot(2, 0, (1, 2)), {}, {"0": 1}, {"a": [1, 2], "b": (1, 2)},
    ]


def wrong_lists_of_amounts():
    """What is neither a content nor a list of numbers or of weights."""
    return no_lists() + [
        [], (), (1,), (1, 2), (0, 1), [-1], [-1, 2], [1, -1], [1, 0, -GREAT], [0], [0, 0, 0], [0] * 8,
        [True], [False, 1], [1, True], [1, None], ["1"], [1, "2"], [[1]], [[1, 2]], [(1,)], [1, (2,)], [1, {}],
        [1, PotError("2")], [1] * 9, [0] * 8 + [1], [1] * 4000, nested(19), [1, nested(18)],
    ]


def wrong_contents():
    return wrong_lists_of_amounts() + [
        [2], [GREAT], [2, 4], [0, 2], [6, 10, 4], [3, 0, 0], [2 * GREAT, 4 * GREAT, 0], [7] * 8,
    ]


def wrong_keeps():
    """Objects that are no kept share."""
    return no_lists() + [
        (), (1,), (1, 2, 3), [], [1, 2], [3, 4], (2, 4), (50, 100), (33, 99), (0, 1), (0, 2), (1, 1), (2, 1), (3, 2),
        (100, 100), (1, 101), (100, 101), (1, GREAT), (GREAT, GREAT + 1), (-1, 2), (1, -2), (-2, -1), (-1, 1),
        (True, 2), (False, 1), (1, True), ("1", 2), (1, "2"), (1, None), (None, 2), ((1, 2), 3), (1, (2,)),
        ((1, 2), (3, 4)), [(1, 2)], ([1], 2), (1, {}), (1, PotError("2")),
    ]


def wrong_lists_of_keeps():
    lists = [[kept] for kept in wrong_keeps()] + [[(1, 2), kept] for kept in wrong_keeps()]
    return no_lists() + lists + [(), (1, 2), ((1, 2),), ((1, 2), (3, 4)), [(1, 2)] * 61, [(1, 2)] * 4000]


def wrong_rows(liquids):
    """Objects that are no row for a content of so many liquids."""
    return no_lists() + [
        (), (0,), (0, 0), [liquids], [0, liquids], [liquids, 0], [-1], [0, -1], [GREAT], [-GREAT], [True], [False],
        [0, False], [None], ["0"], [0, "0"], [[0]], [[]], [(0,)], [0, {}], [PotError("0")], [0] * 61, [0] * 4000,
        [0] * 59 + [liquids], nested(19),
    ]


def wrong_endless_rows(liquids):
    """Objects that are no row of one or more of so many liquids."""
    return [[]] + wrong_rows(liquids)


def wrong_liquids(liquids):
    return [-1, -liquids, liquids, liquids + 1, GREAT, -GREAT, True, False]


def wrong_numbers(most):
    """Integers and booleans that are no numbers from 0 to most."""
    return [-1, -2, most + 1, most + 2, GREAT, -GREAT, True, False]


def wrong_indices(most):
    return wrong_numbers(most) + [10 ** 60 - 1, -10 ** 60 + 1]


def wrong_fractions():
    """Objects that are no fraction."""
    return no_lists() + [
        (), (1,), (1, 2, 3), [], [1, 2], [0, 1], (2, 4), (0, 2), (-2, 4), (3, 3), (GREAT, GREAT), (0, 0), (1, 0),
        (-1, 0), (0, -1), (1, -1), (1, -2), (-1, -2), (1, -GREAT), (True, 2), (False, 1), (1, True), (0, True),
        ("1", 2), (1, "2"), (None, 1), (1, None), ((1, 2), 3), (1, (2,)), ([1], 2), (1, {}), [(1, 2)], ((1, 2),),
        (1, PotError("2")),
    ]


def wrong_shares():
    """Objects that are no fraction from 0 to 1."""
    return wrong_fractions() + [(-1, 1), (-1, 2), (2, 1), (3, 2), (GREAT, 1), (-GREAT, 1), (GREAT + 1, GREAT)]


def wrong_shares_to_reach():
    """Objects that are no fraction from 0 to 1 with a bottom of at most 10 ** 6."""
    return wrong_shares() + [
        (1, MOST_BOTTOM + 1), (MOST_BOTTOM, MOST_BOTTOM + 1), (1, 2 * MOST_BOTTOM), (1, GREAT), (GREAT, GREAT + 1),
    ]


def wrong_cups():
    """Objects that are no cup."""
    return no_lists() + [
        (), (1,), (1, 2, 3), [], [1, 2], [1, 1], (2, 2), (2, 4), (100, 100), (50, 100), (0, 1), (0, 0), (2, 1), (3, 2),
        (1, 101), (100, 101), (101, 101), (1, GREAT), (GREAT, GREAT + 1), (-1, 2), (1, -2), (-1, -1), (-2, -1),
        (True, 1), (1, True), (True, 2), (False, 1), ("1", 2), (1, "2"), (1, None), (None, 2), ((1, 2), 3), (1, (2,)),
        ([1], 2), (1, {}), [(1, 2)], ((1, 2),), (1, PotError("2")),
    ]


def wrong_pots():
    """Objects that are no list of pots."""
    lists = [[[1, 2], content] for content in wrong_contents()] + [[content, [1, 2]] for content in wrong_contents()]
    return no_lists() + lists + [
        [], (), [[1]], [[1, 0]], [[1, 0]] * 9, [[1], [1, 0]], [[1, 0], [1]], [[1, 0], [1, 0], [1, 0, 0]],
        ([1, 0], [0, 1]), [(1, 0), (0, 1)], [1, 0], [[[1, 0], [0, 1]]], [[1, 0]] * 1000, nested(19),
    ]


def wrong_deeds(pots):
    """Objects that are no list of deeds with so many pots."""
    deeds = [
        (), (0, 1), (0, 1, (1, 2), 0), [0, 1, (1, 2)], (0, 0, (1, 2)), (1, 1, (1, 2)), (0, pots, (1, 2)),
        (pots, 0, (1, 2)), (-1, 0, (1, 2)), (0, -1, (1, 2)), (0, GREAT, (1, 2)), (True, 0, (1, 2)), (0, True, (1, 2)),
        (False, 1, (1, 2)),
        (1, False, (1, 2)), ("0", 1, (1, 2)), (0, None, (1, 2)), ((0,), 1, (1, 2)), (0, 1, 1, 2), ((0, 1), (1, 2)),
    ] + no_lists() + [(0, 1, cup) for cup in wrong_cups()]
    lists = [[deed] for deed in deeds] + [[(0, 1, (1, 2)), deed] for deed in deeds]
    return no_lists() + lists + [
        (), (0, 1, (1, 2)), ((0, 1, (1, 2)),), [0, 1, (1, 2)], [[(0, 1, (1, 2))]], [(0, 1, (1, 2))] * 61,
        [(0, 1, (1, 2))] * 800, nested(19),
    ]


def wrong_strengths():
    """Objects that are no list of strengths for any number of liquids."""
    return no_lists() + [
        [], (), (1,), (1, 2), (0, 1), [True], [False, 1], [1, True], [1, None], ["1"], [1, "2"], [[1]], [[1, 2]],
        [(1,)], [1, (2,)], [1, {}], [1, PotError("2")], [1, (1, 2)], [1] * 9, list(range(9)), [1] * 4000, nested(19),
    ]


def wrong_menus():
    """Objects that are no menu."""
    lists = [[kept] for kept in wrong_keeps()] + [[(1, 2), kept] for kept in wrong_keeps()]
    return no_lists() + lists + [
        [], (), (1, 2), ((1, 2),), ((1, 2), (1, 3)), [(1, 2), (1, 2)], [(1, 2), (1, 3), (1, 2)],
        [(1, 3), (2, 3), (3, 4), (2, 3)], [(1, 2), (1, 3), (1, 4), (1, 5), (1, 6)], [(1, 2)] * 5, [(1, 2)] * 4000,
    ]


def pair(number):
    return (number.numerator, number.denominator)


def pure(count, liquid):
    return [int(at == liquid) for at in range(count)]


def shares_of(content):
    return [Fraction(amount, sum(content)) for amount in content]


def content_of(shares):
    """The content with these shares, by way of a common bottom."""
    bottom = lcm(*[share.denominator for share in shares])
    return [int(share * bottom) for share in shares]


def all_contents(count, most):
    """All contents of so many liquids that have a bottom of at most so much."""
    lists = itertools.product(range(most + 1), repeat=count)
    return [list(numbers) for numbers in lists if sum(numbers) <= most and gcd(*numbers) == 1]


def amounts_behind(amounts, kept, liquid):
    """Without dividing: the bottom is multiplied by that of the kept share."""
    stays, whole = kept
    poured = (whole - stays) * sum(amounts)
    return [stays * amount + (poured if at == liquid else 0) for at, amount in enumerate(amounts)]


def told_by_menus(count, menus):
    """From going through all rows: for each content, as a tuple, the ascending list of its (start, steps)."""
    pots = [(start, [], [int(liquid == start) for liquid in range(count)]) for start in range(count)]
    for menu in menus:
        pots = [
            (start, steps + [(liquid, index)], amounts_behind(amounts, kept, liquid))
            for start, steps, amounts in pots for liquid in range(count) for index, kept in enumerate(menu)
        ]
    told = {}
    for start, steps, amounts in pots:
        divisor = gcd(*amounts)
        told.setdefault(tuple(amount // divisor for amount in amounts), []).append((start, steps))
    return told


def told_along(count, keeps):
    """The same by one kept share for each top-up: for each content the ascending list of its histories."""
    told = told_by_menus(count, [[kept] for kept in keeps])
    return {
        content: [(start, [liquid for liquid, _ in steps]) for start, steps in ways] for content, ways in told.items()
    }


class Model:
    """What a pot must tell, reckoned anew from its top-ups each time."""

    def __init__(self, count, start, kept):
        self.count, self.start, self.now = count, start, (kept, [])
        self.before = []

    def pour(self, row):
        kept, past = self.now
        self.change(kept, past + [(liquid, kept) for liquid in row])

    def keep(self, kept):
        self.change(kept, self.now[1])

    def change(self, kept, past):
        self.before.append(self.now)
        self.now = (kept, past)

    def undo_to(self, index):
        while len(self.before) > index:
            self.now = self.before.pop()

    def twin(self):
        other = Model(self.count, self.start, self.now[0])
        other.now, other.before = self.now, list(self.before)
        return other

    def content(self):
        past = self.now[1]
        return topped_by(pure(self.count, self.start), [kept for _, kept in past], [liquid for liquid, _ in past])


class PotTest(unittest.TestCase):
    """Tests that ask a function by position and by name, and look at what it does to its arguments."""

    def assert_fails(self, error, function, *args, **named):
        with self.assertRaises(PotError) as caught:
            function(*args, **named)
        self.assertIs(type(caught.exception), error)

    def assert_fails_both_ways(self, error, function, given):
        before = repr(given)
        self.assert_fails(error, function, *given.values())
        self.assert_fails(error, function, **given)
        self.assertEqual(repr(given), before)

    def assert_wrong_inputs(self, function, valid, wrong):
        """valid: by each argument's name, in the order of the signature, a value; wrong: (error, values) likewise."""
        self.assertEqual(list(valid), list(wrong))
        for name, (error, values) in wrong.items():
            for value in values:
                with self.subTest(function=function.__name__, name=name, value=value):
                    self.assert_fails_both_ways(error, function, {**copy.deepcopy(valid), name: value})
        self.assert_first_decides(function, valid, wrong)

    def assert_first_decides(self, function, valid, wrong):
        # Of many arguments there are many combinations: a few values of each will do.
        some = 3 if len(wrong) < 6 else 1
        for count in range(2, len(wrong) + 1):
            for names in itertools.combinations(wrong, count):
                few = [wrong[name][1][:some] + wrong[name][1][-some:] for name in names]
                for values in itertools.product(*few):
                    given = {**copy.deepcopy(valid), **dict(zip(names, values))}
                    with self.subTest(function=function.__name__, given=given):
                        self.assert_fails_both_ways(wrong[names[0]][0], function, given)

    def assert_gives(self, function, given, expected):
        """The result is right by position and by name, of the right kinds, new each time; arguments are as before."""
        before = given
        given = copy.deepcopy(before)
        first = function(*given.values())
        second = function(**given)
        self.assert_same(first, expected)
        self.assert_same(second, expected)
        self.assert_new_lists(first, second, list(given.values()))
        spoil(first)
        self.assert_same(second, expected)
        self.assert_same(given, before)
        self.assert_same(function(**given), expected)
        spoil(given)
        self.assert_same(second, expected)

    def assert_same(self, found, expected):
        # Python takes True for 1 and shows both as equal: the texts tell them apart.
        self.assertEqual(found, expected)
        self.assertEqual(repr(found), repr(expected))

    def assert_new_lists(self, *things):
        returned = [part for thing in things[:-1] for part in lists_in(thing)]
        self.assertEqual(len({id(part) for part in returned}), len(returned))
        passed = {id(part) for part in lists_in(things[-1])}
        self.assertFalse(passed & {id(part) for part in returned})


def lists_in(thing):
    """All lists within a thing, itself included, one for each place where it stands."""
    if isinstance(thing, dict):
        return lists_in(list(thing.values()))
    if not isinstance(thing, (list, tuple)):
        return []
    found = [thing] if isinstance(thing, list) else []
    return found + [part for inner in thing for part in lists_in(inner)]


def spoil(thing):
    for part in lists_in(thing):
        part.append("spoiled")
