"""Strengths: one number for a mixture, and the histories that it tells."""

from topups.basics import (
    MOST_LIQUIDS, MOST_TOP_UPS, check_fraction, check_kept, check_number, check_share, is_integer, lowest_terms,
    powers_of,
)
from topups.contents import check_content
from topups.errors import InvalidStrengths
from topups.histories import all_before, histories_of_length, layers_back, told_by

MOST_OF_STRENGTH = 12


def strength_of(content, strengths):
    """The sum of the shares times the strengths, as a fraction."""
    check_content(content)
    check_strengths(strengths)
    if len(strengths) != len(content):
        raise InvalidStrengths("one strength for each liquid is needed")
    top = sum(amount * strength for amount, strength in zip(content, strengths))
    return lowest_terms(top, sum(content))


def strengths_differ(strengths, kept):
    """Whether no two strengths are the same modulo a."""
    check_strengths(strengths)
    check_kept(kept)
    return len({strength % kept[0] for strength in strengths}) == len(strengths)


def histories_of_strength(value, strengths, kept, number):
    """All histories of so many top-ups that lead to contents with this strength, ascending."""
    check_fraction(value)
    check_strengths(strengths)
    check_kept(kept)
    check_number(number, 0, MOST_OF_STRENGTH)
    top, bottom = value
    search = StrengthSearch(strengths, kept, number)
    if search.powers[number] % bottom != 0:
        return []
    last = top * (search.powers[number] // bottom)
    search.look_ahead(last, number)
    return told_by(layers_back(last, number, search.undone, search.starts))


def uses_of_share(share, kept, number):
    """Whether each of so many top-ups was with a liquid that the pot had none of and now has this share of, or None."""
    check_share(share)
    check_kept(kept)
    check_number(number, 0, MOST_TOP_UPS)
    top, bottom = share
    # What is not this liquid is like one other one, and the pot was full of that.
    for start, row in histories_of_length([bottom - top, top], kept, number):
        if start == 0:
            return [liquid == 1 for liquid in row]
    return None


def check_strengths(strengths):
    if not is_list_of_strengths(strengths):
        raise InvalidStrengths("a list of 1 to 8 integers is needed")


def is_list_of_strengths(thing):
    if type(thing) != list or not 1 <= len(thing) <= MOST_LIQUIDS:
        return False
    return all(is_integer(strength) for strength in thing)


class StrengthSearch:
    """What was before a strength. Behind n top-ups each one is held times b ** n, which makes it an integer."""

    def __init__(self, strengths, kept, number):
        self.strengths = strengths
        self.stays, self.whole = kept
        self.powers = powers_of(self.whole, number)
        self.early = [{strength: True for strength in strengths}]

    def look_ahead(self, last, number):
        """Goes on from the starts or back from the last one, wherever there is less, until both ends meet."""
        late = [last]
        while number >= len(self.early):
            if len(self.early[-1]) < len(late):
                self.early.append(self.all_behind(len(self.early)))
            else:
                late = all_before({held: self.undone(held, number) for held in late})
                number -= 1

    def all_behind(self, number):
        parts = self.parts(number)
        return {held * self.stays + part: True for held in self.early[number - 1] for part in parts}

    def undone(self, held, number):
        """The liquids of the last of so many top-ups, each with what is held before it."""
        pairs = []
        for liquid, part in enumerate(self.parts(number)):
            before = (held - part) // self.stays
            if before * self.stays + part == held and self.is_reachable(before, number - 1):
                pairs.append((liquid, before))
        return pairs

    def parts(self, number):
        """What a top-up with each liquid, the last one of so many, adds."""
        share = (self.whole - self.stays) * self.powers[number - 1]
        return [share * strength for strength in self.strengths]

    def is_reachable(self, held, number):
        if number < len(self.early):
            return held in self.early[number]
        power = self.powers[number]
        return min(self.strengths) * power <= held <= max(self.strengths) * power

    def starts(self, held):
        return [liquid for liquid, strength in enumerate(self.strengths) if strength == held]
