"""Menus: histories of top-ups each of which can have had one of several kept shares."""

from topups.basics import check_number, is_kept
from topups.contents import check_content
from topups.errors import InvalidKept
from topups.histories import content_layers, count_by, told_by

MOST_IN_MENU = 4
MOST_BY_MENU = 8


def histories_by_menu(content, menu, number):
    """All tuples (start, steps), ascending; a step is a tuple (liquid, index of the kept share in the menu)."""
    return told_by(menu_layers(content, menu, number))


def count_by_menu(content, menu, number):
    """How many histories of so many top-ups there are by a menu."""
    return count_by(menu_layers(content, menu, number))


def menu_layers(content, menu, number):
    check_content(content)
    check_menu(menu)
    check_number(number, 0, MOST_BY_MENU)
    return content_layers(content, [menu for _ in range(number)])


def check_menu(menu):
    if not is_menu(menu):
        raise InvalidKept("a list of 1 to 4 different kept shares is needed")


def is_menu(thing):
    if type(thing) != list or not 1 <= len(thing) <= MOST_IN_MENU:
        return False
    return all(is_kept(kept) for kept in thing) and len(set(thing)) == len(thing)
