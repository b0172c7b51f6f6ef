"""What several files need: common divisors, and which arguments are valid."""

from math import gcd

from topups.errors import InvalidKept, InvalidLiquid, InvalidNumber, InvalidRow

MOST_LIQUIDS = 8
MOST_TOP_UPS = 60
MOST_PARTS = 100


def is_integer(thing):
    # A boolean is an int, too, to Python.
    return isinstance(thing, int) and not isinstance(thing, bool)


def is_within(thing, least, most):
    return is_integer(thing) and least <= thing <= most


def is_kept(thing):
    if type(thing) != tuple or len(thing) != 2:
        return False
    stays, whole = thing
    if not is_integer(stays) or not is_integer(whole):
        return False
    return 1 <= stays < whole <= MOST_PARTS and gcd(stays, whole) == 1


def is_list_of_keeps(thing):
    if type(thing) != list or len(thing) > MOST_TOP_UPS:
        return False
    return all(is_kept(kept) for kept in thing)


def is_row(thing, liquids):
    if type(thing) != list or len(thing) > MOST_TOP_UPS:
        return False
    return all(is_within(liquid, 0, liquids - 1) for liquid in thing)


def check_kept(kept):
    if not is_kept(kept):
        raise InvalidKept("a kept share (a, b) in lowest terms with 1 <= a < b <= 100 is needed")


def check_keeps(keeps):
    if not is_list_of_keeps(keeps):
        raise InvalidKept("a list of at most 60 kept shares is needed")


def check_row(row, liquids):
    if not is_row(row, liquids):
        raise InvalidRow("a list of at most 60 of the liquids is needed")


def check_liquid(liquid, liquids):
    if not is_within(liquid, 0, liquids - 1):
        raise InvalidLiquid("one of the liquids, counted from 0, is needed")


def check_number(number, least, most):
    if not is_within(number, least, most):
        raise InvalidNumber("an integer within its limits is needed")


def common_divisor(numbers):
    divisor = 0
    for number in numbers:
        divisor = gcd(divisor, number)
    return divisor


def without_divisor(numbers):
    divisor = common_divisor(numbers)
    return [number // divisor for number in numbers]
