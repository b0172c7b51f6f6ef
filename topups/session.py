"""Sessions: lines of text that are calls of a pot, and the answers to them."""

from topups.contents import share_of
from topups.errors import PotError
from topups.histories import history_of, liquids_of
from topups.live import Pot
from topups.texts import number_in, read_row, write_content, write_history, write_row

DONE = "ok"
NOT_KNOWN = "?"
NO_HISTORY = "none"


def session(rows):
    """The answers to the lines of a string, one line for each."""
    pot = None
    answers = []
    for line in rows.split("\n"):
        try:
            pot, answer = behind_line(pot, line.split(" "))
        except PotError as error:
            answer = type(error).__name__
        answers.append(answer)
    return "\n".join(answers)


def behind_line(pot, words):
    """The pot behind a line, and the answer to it."""
    if "" in words:
        return pot, NOT_KNOWN
    if words[0] == "pot":
        return behind_pot_line(pot, words[1:])
    if pot is None:
        return pot, NOT_KNOWN
    return pot, answer_to(pot, words[0], words[1:])


def behind_pot_line(pot, words):
    integers = [integer_in(word) for word in words]
    if None in integers or len(integers) != 4:
        return pot, NOT_KNOWN
    count, start, stays, whole = integers
    return Pot(count, start, (stays, whole)), DONE


def answer_to(pot, name, words):
    if len(words) > 0 and name == "pour":
        pot.pour(read_row(" ".join(words)))
        return DONE
    integers = [integer_in(word) for word in words]
    if None in integers:
        return NOT_KNOWN
    if len(integers) > 0 and name == "strength":
        return fraction_text(pot.strength(integers))
    return answer_by_integers(pot, [name] + integers)


def answer_by_integers(pot, parts):
    match parts:
        case ["top", liquid]:
            pot.top_up(liquid)
            return DONE
        case ["keep", stays, whole]:
            pot.keep((stays, whole))
            return DONE
        case ["undo"]:
            pot.undo()
            return DONE
        case ["back", index]:
            pot.undo_to(index)
            return DONE
        case ["content"]:
            return write_content(pot.content)
        case ["share", liquid]:
            return fraction_text(share_of(pot.content, liquid))
        case ["past"]:
            return write_row(liquids_of(pot.past))
        case ["history"]:
            history = history_of(pot.content, pot.kept)
            return NO_HISTORY if history is None else write_history(history)
    return NOT_KNOWN


def integer_in(word):
    """The integer that a word is, with a minus or without; None for none."""
    if not word.startswith("-"):
        return number_in(word)
    number = number_in(word[1:])
    return None if number is None or number == 0 else -number


def fraction_text(fraction):
    top, bottom = fraction
    return f"{top}/{bottom}"
