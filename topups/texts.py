"""Texts: contents, rows and histories as words with single blanks between."""

from topups.basics import MOST_LIQUIDS, MOST_TOP_UPS, common_divisor, is_list_of_liquids
from topups.contents import check_content
from topups.errors import InvalidRow, InvalidText

MOST_DIGITS = 30
NO_LIQUIDS = "-"


def write_content(content):
    """The text of a content."""
    check_content(content)
    return text_of(content)


def read_content(text):
    """The content of a text."""
    amounts = numbers_of(text.split(" "), MOST_LIQUIDS, None)
    if common_divisor(amounts) != 1:
        raise InvalidText(len(amounts))
    return amounts


def write_row(row):
    """The text of a row."""
    # Rows that are longer than those of top-ups are told by history_of, too.
    if not is_list_of_liquids(row, MOST_LIQUIDS):
        raise InvalidRow("a list of liquids is needed")
    return text_of(row) if row else NO_LIQUIDS


def read_row(text):
    """The row of a text."""
    words = text.split(" ")
    if words[0] != NO_LIQUIDS:
        return numbers_of(words, MOST_TOP_UPS, MOST_LIQUIDS - 1)
    if len(words) > 1:
        raise InvalidText(1)
    return []


def write_history(history):
    """The text of a history."""
    start, row = history
    return text_of([start] + row)


def read_history(text):
    """The history of a text."""
    liquids = numbers_of(text.split(" "), MOST_TOP_UPS + 1, MOST_LIQUIDS - 1)
    return (liquids[0], liquids[1:])


def text_of(numbers):
    return " ".join([str(number) for number in numbers])


def numbers_of(words, many, most):
    """The numbers that the words are: so many at most, and each at most so great, where most is not None."""
    numbers = []
    for place, word in enumerate(words):
        number = number_in(word)
        if place == many or number is None or (most is not None and number > most):
            raise InvalidText(place)
        numbers.append(number)
    return numbers


def number_in(word):
    """The number that a word is; None for none."""
    if not word.isdigit() or len(word) > MOST_DIGITS or (word[0] == "0" and word != "0"):
        return None
    return int(word)
