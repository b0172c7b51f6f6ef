"""What several files need: divisors, powers, distances that shrink, and which arguments are valid."""

from math import gcd

from topups.errors import InvalidFraction, InvalidIndex, InvalidKept, InvalidLiquid, InvalidNumber, InvalidRow

MOST_LIQUIDS = 8
MOST_TOP_UPS = 60
MOST_PARTS = 100
MOST_BOTTOM = 1000000


def is_integer(thing):
    # A boolean is an int, too, to Python.
    return isinstance(thing, int) and not isinstance(thing, bool)


def is_within(thing, least, most):
    return is_integer(thing) and least <= thing <= most


def is_pair_in_lowest_terms(thing):
    if type(thing) != tuple or len(thing) != 2:
        return False
    one, other = thing
    return is_integer(one) and is_integer(other) and gcd(one, other) == 1


def is_fraction(thing):
    return is_pair_in_lowest_terms(thing) and thing[1] >= 1


def is_kept(thing):
    return is_pair_in_lowest_terms(thing) and 1 <= thing[0] < thing[1] <= MOST_PARTS


def is_list_of_keeps(thing):
    if type(thing) != list or len(thing) > MOST_TOP_UPS:
        return False
    return all(is_kept(kept) for kept in thing)


def is_list_of_liquids(thing, liquids):
    if type(thing) != list:
        return False
    return all(is_within(liquid, 0, liquids - 1) for liquid in thing)


def is_row(thing, liquids):
    return is_list_of_liquids(thing, liquids) and len(thing) <= MOST_TOP_UPS


def check_fraction(fraction):
    if not is_fraction(fraction):
        raise InvalidFraction("a tuple (top, bottom) in lowest terms with bottom >= 1 is needed")


def check_share(share):
    check_fraction(share)
    if not 0 <= share[0] <= share[1]:
        raise InvalidFraction("a fraction from 0 to 1 is needed")


def check_share_to_reach(share):
    check_share(share)
    if share[1] > MOST_BOTTOM:
        raise InvalidFraction("a fraction with a bottom of at most 10 ** 6 is needed")


def check_kept(kept):
    if not is_kept(kept):
        raise InvalidKept("a kept share (a, b) in lowest terms with 1 <= a < b <= 100 is needed")


def check_keeps(keeps):
    if not is_list_of_keeps(keeps):
        raise InvalidKept("a list of at most 60 kept shares is needed")


def check_row(row, liquids):
    if not is_row(row, liquids):
        raise InvalidRow("a list of at most 60 of the liquids is needed")


def check_liquid(liquid, liquids):
    if not is_within(liquid, 0, liquids - 1):
        raise InvalidLiquid("one of the liquids, counted from 0, is needed")


def check_number(number, least, most):
    if not is_within(number, least, most):
        raise InvalidNumber("an integer within its limits is needed")


def check_index(index, most):
    if not is_within(index, 0, most):
        raise InvalidIndex("an index within its limits is needed")


def lowest_terms(top, bottom):
    divisor = gcd(top, bottom)
    return (top // divisor, bottom // divisor)


def common_divisor(numbers):
    divisor = 0
    for number in numbers:
        divisor = gcd(divisor, number)
    return divisor


def without_divisor(numbers):
    divisor = common_divisor(numbers)
    return [number // divisor for number in numbers]


def powers_of(base, number):
    powers = [1]
    for _ in range(number):
        powers.append(powers[-1] * base)
    return powers


def steps_within(distance, factor, fraction):
    """How often a distance is multiplied by a factor until it is at most a fraction; None for never."""
    if distance[0] > 0 and factor[0] > 0 and fraction[0] == 0:
        return None
    # The distance divided by the fraction: at most 1 is wanted.
    top = distance[0] * fraction[1]
    bottom = distance[1] * fraction[0]
    steps = 0
    while top > bottom:
        top *= factor[0]
        bottom *= factor[1]
        steps += 1
    return steps
