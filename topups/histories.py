"""Histories: the rows of top-ups that can have led from a pure content to a content."""

from math import gcd

from topups.basics import MOST_TOP_UPS, check_keeps, check_kept, check_number, without_divisor
from topups.contents import check_content
from topups.errors import InvalidKept, TooMany

MOST_UNLIKE_KEEPS = 8
MOST_TOLD = 500


def history_of(content, kept):
    """The short history of a content, of two the one with the lesser start; None for none."""
    check_content(content)
    check_kept(kept)
    histories = short_histories(content, kept)
    return histories[0] if histories else None


def all_histories(content, kept, number):
    """All histories of so many top-ups, ascending."""
    check_content(content)
    check_kept(kept)
    check_number(number, 0, MOST_TOP_UPS)
    return histories_of_length(content, kept, number)


def stuck_at(content, kept):
    """None for a short history, else the liquids that can be undone, the last one first, and the content left."""
    check_content(content)
    check_kept(kept)
    undone, left = undone_and_left(content, kept)
    return None if is_pure(left) else (undone, left)


def histories_along(content, keeps):
    """All histories whose top-ups have these kept shares, ascending."""
    check_content(content)
    check_keeps_to_undo(keeps)
    told = told_by(content_layers(content, [[kept] for kept in keeps]))
    return [(start, liquids_of(steps)) for start, steps in told]


def is_one_left(keeps):
    """Whether top-ups with these kept shares can have at most one history, by the condition of R3."""
    check_keeps(keeps)
    return holds_for_all(keeps)


def check_keeps_to_undo(keeps):
    check_keeps(keeps)
    if len(keeps) > MOST_UNLIKE_KEEPS and not holds_for_all(keeps):
        raise InvalidKept("more than 8 kept shares are undone only where they leave at most one history")


def holds_for_all(keeps):
    earlier = 1
    for stays, whole in keeps:
        if 2 * stays >= whole and (stays == 1 or gcd(stays, earlier) > 1):
            return False
        earlier *= whole
    return True


def short_histories(content, kept):
    undone, left = undone_and_left(content, kept)
    if not is_pure(left):
        return []
    start = left.index(1)
    row = undone[::-1]
    if kept == (1, 2) and row:
        return [(start, row), (row[0], [start] + row[1:])]
    return [(start, row)]


def histories_of_length(content, kept, number):
    # A history that is not short has a short one behind top-ups with its own start, which change nothing.
    histories = []
    for start, row in short_histories(content, kept):
        if len(row) <= number:
            histories.append((start, [start] * (number - len(row)) + row))
    return histories


def undone_and_left(content, kept):
    undone = []
    left = list(content)
    while not is_pure(left) and is_power(sum(left), kept[1]):
        liquid = last_liquid(left, kept)
        if liquid is None:
            return undone, left
        undone.append(liquid)
        left = content_before(left, kept, liquid)
    return undone, left


def last_liquid(content, kept):
    """The liquid of the last top-up, by R2, of a content whose bottom is a power, or of a limit; None for none."""
    stays = kept[0]
    marked = [liquid for liquid, amount in enumerate(content) if stays == 1 or amount % stays != 0]
    if stays > 1 and len(marked) > 1:
        return None
    fitting = [liquid for liquid in marked if can_be_last(content, kept, liquid)]
    # There are two of them only for halves of two liquids: the later one leaves the lesser start.
    return fitting[-1] if fitting else None


def can_be_last(content, kept, liquid):
    stays, whole = kept
    return content[liquid] * whole >= (whole - stays) * sum(content)


def content_before(content, kept, liquid):
    stays, whole = kept
    amounts = [amount * whole for amount in content]
    amounts[liquid] -= (whole - stays) * sum(content)
    return without_divisor(amounts)


def is_pure(content):
    return sum(content) == 1


def is_power(number, base):
    while number % base == 0:
        number //= base
    return number == 1


def content_layers(content, choices):
    """The layers that lead to a content; choices are, for each top-up, the kept shares that it can have had."""
    search = ContentSearch(choices)
    return layers_back(tuple(content), len(choices), search.undone, pure_liquids)


class ContentSearch:
    """What was before a content if each top-up had one of several kept shares."""

    def __init__(self, choices):
        self.choices = choices
        self.products = products_of(choices)
        self.known = [{} for _ in self.products]

    def undone(self, content, number):
        """The last of so many top-ups, as (liquid, index of the kept share), each with the content before it."""
        pairs = []
        for index, kept in enumerate(self.choices[number - 1]):
            for liquid in range(len(content)):
                if can_be_last(content, kept, liquid):
                    before = tuple(content_before(content, kept, liquid))
                    if self.is_reachable(before, number - 1):
                        pairs.append(((liquid, index), before))
        return pairs

    def is_reachable(self, content, number):
        # A top-up brings one further liquid at most.
        return len(content) - content.count(0) <= number + 1 and self.is_bottom(sum(content), number)

    def is_bottom(self, bottom, number):
        known = self.known[number]
        if bottom not in known:
            # The bottom divides what it is before the integers are reduced: the product of those of the kept shares.
            known[bottom] = any(product % bottom == 0 for product in self.products[number])
        return known[bottom]


def products_of(choices):
    """For 0, 1 .. all top-ups, the products that the bottoms of their kept shares can have."""
    products = [[1]]
    for keeps in choices:
        further = {product * whole: True for product in products[-1] for _, whole in keeps}
        products.append(list(further))
    return products


def pure_liquids(content):
    return [content.index(1)] if is_pure(content) else []


def liquids_of(steps):
    return [liquid for liquid, _ in steps]


def layers_back(last, number, undone, starts):
    """For 0, 1 .. number top-ups, a dict of what can have been behind them on the way to the last one.

    Behind none each has the list of its starts, behind others that of its pairs (top-up, what was before it)."""
    layers = []
    ends = [last]
    for behind in range(number, 0, -1):
        layer = {end: undone(end, behind) for end in ends}
        layers.append(layer)
        ends = all_before(layer)
    layers.append({end: starts(end) for end in ends})
    return layers[::-1]


def all_before(layer):
    found = {}
    for pairs in layer.values():
        for _, before in pairs:
            found[before] = True
    return list(found)


def count_by(layers):
    """How many ways lead through the layers."""
    counts = {end: len(starts) for end, starts in layers[0].items()}
    for layer in layers[1:]:
        counts = {end: count_of(pairs, counts) for end, pairs in layer.items()}
    return sum(counts.values())


def count_of(pairs, counts):
    return sum(counts[before] for _, before in pairs)


def told_by(layers):
    """All ways through the layers, as tuples (start, list of top-ups), ascending."""
    if count_by(layers) > MOST_TOLD:
        raise TooMany("there are more than 500 histories")
    told = {end: [(start, []) for start in starts] for end, starts in layers[0].items()}
    for layer in layers[1:]:
        told = {end: told_of(pairs, told) for end, pairs in layer.items()}
    return sorted([way for ways in told.values() for way in ways])


def told_of(pairs, told):
    return [(start, steps + [step]) for step, before in pairs for start, steps in told[before]]
