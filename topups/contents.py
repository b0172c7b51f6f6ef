"""Contents: lists of integers that tell the shares of the liquids in a pot."""

from math import lcm

from topups.basics import (
    MOST_LIQUIDS, check_liquid, check_number, common_divisor, is_integer, lowest_terms, without_divisor,
)
from topups.errors import InvalidContent, InvalidNumbers


def is_content(thing):
    """Whether any object is a content."""
    return is_list_of_amounts(thing) and common_divisor(thing) == 1


def bottom_of(content):
    """The sum of the integers of a content."""
    check_content(content)
    return sum(content)


def share_of(content, liquid):
    """The share of a liquid, as a fraction."""
    check_content(content)
    check_liquid(liquid, len(content))
    return lowest_terms(content[liquid], sum(content))


def pure_content(count, liquid):
    """The content of a pot with nothing but one of count liquids."""
    check_number(count, 1, MOST_LIQUIDS)
    check_liquid(liquid, count)
    content = [0] * count
    content[liquid] = 1
    return content


def reduced_content(numbers):
    """The content with the shares that the numbers tell."""
    check_amounts(numbers)
    return without_divisor(numbers)


def mixed_content(contents, weights):
    """The content of a pot into which so many parts of each content are poured."""
    check_contents(contents)
    check_weights(weights, len(contents))
    return mixture_of(contents, weights)


def mixture_of(contents, weights):
    common = 1
    for content in contents:
        common = lcm(common, sum(content))
    mixture = [0] * len(contents[0])
    for content, weight in zip(contents, weights):
        # Integers of unlike contents can only be added when they are parts of one size.
        factor = weight * (common // sum(content))
        mixture = [amount + factor * more for amount, more in zip(mixture, content)]
    return without_divisor(mixture)


def greatest_difference(first, second):
    """Of the shares of all liquids in two contents, as (top, bottom), which may have a common divisor."""
    bottom, other = sum(first), sum(second)
    tops = [abs(amount * other - more * bottom) for amount, more in zip(first, second)]
    return (max(tops), bottom * other)


def is_list_of_amounts(thing):
    if type(thing) != list or not 1 <= len(thing) <= MOST_LIQUIDS:
        return False
    return all(is_integer(amount) and amount >= 0 for amount in thing)


def is_list_of_contents(thing):
    if type(thing) != list or not 1 <= len(thing) <= MOST_LIQUIDS:
        return False
    if not all(is_content(content) for content in thing):
        return False
    return all(len(content) == len(thing[0]) for content in thing)


def check_content(content):
    if not is_content(content):
        raise InvalidContent("a list of 1 to 8 integers from 0 on without a common divisor is needed")


def check_contents(contents):
    if not is_list_of_contents(contents):
        raise InvalidContent("a list of 1 to 8 contents of one length is needed")


def check_amounts(numbers):
    if not is_list_of_amounts(numbers) or common_divisor(numbers) == 0:
        raise InvalidNumbers("a list of 1 to 8 integers from 0 on, not all 0, is needed")


def check_weights(weights, count):
    check_amounts(weights)
    if len(weights) != count:
        raise InvalidNumbers("one weight for each content is needed")
