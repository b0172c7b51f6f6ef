"""Endless rows: a row that is repeated without end has one content that it leads back to, its limit."""

from topups.basics import (
    MOST_LIQUIDS, MOST_TOP_UPS, check_kept, check_number, check_row, check_share_to_reach, lowest_terms, powers_of,
    steps_within, without_divisor,
)
from topups.contents import check_content, greatest_difference
from topups.errors import InvalidRow
from topups.histories import content_before, last_liquid
from topups.topping import contents_by

MOST_ROUNDS = 10


def limit_of(count, row, kept):
    """The content of count liquids that a row leads back to."""
    check_limit(count, row, kept)
    return limit_by(count, row, kept)


def limits_along(count, row, kept):
    """The contents behind 0, 1 .. all but one of the top-ups of a row from its limit."""
    check_limit(count, row, kept)
    return contents_by(limit_by(count, row, kept), [kept] * (len(row) - 1), row[:-1])


def row_of_limit(content, kept, number):
    """The row of so many liquids whose limit the content is; None for none."""
    check_content(content)
    check_kept(kept)
    check_number(number, 1, MOST_TOP_UPS)
    undone = []
    left = content
    for _ in range(number):
        liquid = last_liquid(left, kept)
        if liquid is None:
            return None
        undone.append(liquid)
        left = content_before(left, kept, liquid)
    return undone[::-1] if left == content else None


def same_limit(row, other):
    """Whether two rows have one limit."""
    check_endless_row(row, MOST_LIQUIDS)
    check_endless_row(other, MOST_LIQUIDS)
    return shortest_root(row) == shortest_root(other)


def root_of(row):
    """The shortest row of which a row is a repetition."""
    check_endless_row(row, MOST_LIQUIDS)
    return shortest_root(row)


def distance_after(content, row, kept, rounds):
    """The greatest difference of the shares in the limit and in the content behind so many rounds, as a fraction."""
    check_rounds(content, row, kept)
    check_number(rounds, 0, MOST_ROUNDS)
    top, bottom = distance_to_limit(content, row, kept)
    stays, whole = kept_by(kept, len(row) * rounds)
    return lowest_terms(top * stays, bottom * whole)


def rounds_within(content, row, kept, fraction):
    """The least number of rounds behind which this difference is at most a fraction; None for none."""
    check_rounds(content, row, kept)
    check_share_to_reach(fraction)
    return steps_within(distance_to_limit(content, row, kept), kept_by(kept, len(row)), fraction)


def check_endless_row(row, liquids):
    check_row(row, liquids)
    if len(row) == 0:
        raise InvalidRow("a row of one or more liquids is needed")


def check_limit(count, row, kept):
    check_number(count, 1, MOST_LIQUIDS)
    check_endless_row(row, count)
    check_kept(kept)


def check_rounds(content, row, kept):
    check_content(content)
    check_endless_row(row, len(content))
    check_kept(kept)


def limit_by(count, row, kept):
    stays, whole = kept
    amounts = [0] * count
    power = 1
    for liquid in row:
        amounts = [amount * stays for amount in amounts]
        # Undivided, each top-up adds b times what the one before it added. All are without their factor b - a.
        amounts[liquid] += power
        power *= whole
    return without_divisor(amounts)


def shortest_root(row):
    for length in range(1, len(row)):
        if row[:length] * (len(row) // length) == row:
            return row[:length]
    return list(row)


def distance_to_limit(content, row, kept):
    return greatest_difference(content, limit_by(len(content), row, kept))


def kept_by(kept, number):
    """What so many top-ups keep of what was in the pot."""
    return (powers_of(kept[0], number)[-1], powers_of(kept[1], number)[-1])
