"""Counts: the contents to which top-ups of a pure pot lead, and the place of each one in their sequence."""

from topups.basics import (
    MOST_LIQUIDS, MOST_TOP_UPS, check_fraction, check_index, check_kept, check_liquid, check_number, powers_of,
)
from topups.contents import check_content, pure_content
from topups.errors import InvalidContent
from topups.histories import histories_of_length
from topups.topping import contents_by

MOST_BETWEEN = 20


def count_contents(count, number):
    """How many different contents so many top-ups of a pure pot can lead to."""
    check_number(count, 1, MOST_LIQUIDS)
    check_number(number, 0, MOST_TOP_UPS)
    return how_many_rows(count, number)


def nth_content(count, kept, start, number, index):
    """The content to which the row with an index leads, of all rows of so many liquids in ascending sequence."""
    check_pure_pot(count, kept, start)
    check_number(number, 0, MOST_TOP_UPS)
    check_index(index, how_many_rows(count, number) - 1)
    row = row_at(index, count, number)
    return contents_by(pure_content(count, start), [kept] * number, row)[-1]


def content_index(content, kept, start, number):
    """The index of the row of so many liquids that leads from a pure pot to a content."""
    check_content(content)
    check_kept(kept)
    check_liquid(start, len(content))
    check_number(number, 0, MOST_TOP_UPS)
    for other, row in histories_of_length(content, kept, number):
        if other == start:
            return index_of(row, len(content))
    raise InvalidContent("a content to which such a row leads is needed")


def count_between(count, kept, start, number, liquid, low, high):
    """How many of the contents have a share of a liquid from low to high."""
    check_pure_pot(count, kept, start)
    check_number(number, 0, MOST_BETWEEN)
    check_liquid(liquid, count)
    check_fraction(low)
    check_fraction(high)
    powers = powers_of(kept[1], number)
    half = number // 2
    # Half of the top-ups have few ways each, where all of them together have many.
    early = ways_behind(int(start == liquid), kept, powers[:half], count - 1)
    late = ways_behind(0, kept, powers[half:number], count - 1)
    factor = powers_of(kept[0], number - half)[-1]
    most = high[0] * powers[number] // high[1]
    below = (low[0] * powers[number] - 1) // low[1]
    return max(0, many_up_to(most, early, late, factor) - many_up_to(below, early, late, factor))


def check_pure_pot(count, kept, start):
    check_number(count, 1, MOST_LIQUIDS)
    check_kept(kept)
    check_liquid(start, count)


def how_many_rows(count, number):
    # By R2 no two rows of one length lead from one start to one content, so this is how many contents there are, too.
    return powers_of(count, number)[-1]


def row_at(index, count, number):
    row = []
    for _ in range(number):
        index, liquid = divmod(index, count)
        row.append(liquid)
    return row[::-1]


def index_of(row, count):
    index = 0
    for liquid in row:
        index = index * count + liquid
    return index


def ways_behind(held, kept, bottoms, others):
    """What there can be of a liquid behind top-ups of pots with these bottoms, each with the number of its rows.

    The integers are not divided, so that each top-up multiplies the bottom by b."""
    stays, whole = kept
    ways = [(held, 1)]
    for bottom in bottoms:
        poured = (whole - stays) * bottom
        more = [(amount * stays + poured, many) for amount, many in ways]
        less = [(amount * stays, many * others) for amount, many in ways]
        ways = more + less
    return sorted(ways)


def many_up_to(most, early, late, factor):
    """How many pairs of an early and a late way have at most so much, where the early one is multiplied by a factor."""
    many = 0
    passed = 0
    place = 0
    for added, late_many in reversed(late):
        while place < len(early) and early[place][0] * factor + added <= most:
            passed += early[place][1]
            place += 1
        many += passed * late_many
    return many
