"""Cups: parts of a pot that are poured to and fro between full pots of one size."""

from topups.basics import (
    MOST_PARTS, MOST_TOP_UPS, check_share_to_reach, is_pair_in_lowest_terms, is_within, steps_within,
)
from topups.contents import check_content, greatest_difference, is_list_of_contents, mixture_of
from topups.errors import InvalidContent, InvalidCup, InvalidDeeds, InvalidPots


def to_and_fro(first, second, cup):
    """Both contents behind a cup of the first pot poured into the second one, and a cup of this poured back."""
    check_two_pots(first, second)
    check_cup(cup)
    return contents_behind(first, second, cup)


def cups_row(pots, deeds):
    """The contents of the pots behind all deeds: a deed (i, j, cup) is a cup to and fro between two of them."""
    check_pots(pots)
    check_deeds(deeds, len(pots))
    contents = [list(content) for content in pots]
    for one, other, cup in deeds:
        contents[one], contents[other] = contents_behind(contents[one], contents[other], cup)
    return contents


def carried(cup):
    """The part of the first pot that lies in the second one behind a cup to and fro, as a fraction."""
    check_cup(cup)
    poured, whole = cup
    return (poured, whole + poured)


def fewest_cups(first, second, cup, fraction):
    """The least number of cups to and fro behind which no share differs by more than a fraction; None for none."""
    check_two_pots(first, second)
    check_cup(cup)
    check_share_to_reach(fraction)
    poured, whole = cup
    # A cup to and fro makes the difference of each share smaller by the same factor.
    return steps_within(greatest_difference(first, second), (whole - poured, whole + poured), fraction)


def is_cup(thing):
    return is_pair_in_lowest_terms(thing) and 1 <= thing[0] <= thing[1] <= MOST_PARTS


def is_deed(thing, pots):
    if type(thing) != tuple or len(thing) != 3:
        return False
    one, other, cup = thing
    return is_within(one, 0, pots - 1) and is_within(other, 0, pots - 1) and one != other and is_cup(cup)


def is_list_of_deeds(thing, pots):
    if type(thing) != list or len(thing) > MOST_TOP_UPS:
        return False
    return all(is_deed(deed, pots) for deed in thing)


def check_two_pots(first, second):
    check_content(first)
    check_content(second)
    if len(first) != len(second):
        raise InvalidContent("two contents of as many liquids are needed")


def check_cup(cup):
    if not is_cup(cup):
        raise InvalidCup("a cup (p, q) in lowest terms with 1 <= p <= q <= 100 is needed")


def check_pots(pots):
    if not is_list_of_contents(pots) or len(pots) == 1:
        raise InvalidPots("a list of 2 to 8 contents of one length is needed")


def check_deeds(deeds, pots):
    if not is_list_of_deeds(deeds, pots):
        raise InvalidDeeds("a list of at most 60 tuples (i, j, cup) of two different pots is needed")


def contents_behind(first, second, cup):
    poured, whole = cup
    stirred = mixture_of([first, second], [poured, whole])
    return (mixture_of([first, stirred], [whole - poured, poured]), stirred)
