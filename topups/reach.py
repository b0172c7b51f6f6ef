"""Reach: how soon the share of a liquid can be where it is wanted, and from which shares it can."""

from math import lcm

from topups.basics import check_kept, check_liquid, check_number, check_share_to_reach, lowest_terms, steps_within
from topups.contents import check_content
from topups.errors import InvalidContent

MOST_TO_REACH = 12


def fewest_at_most(content, kept, liquid, fraction):
    """The least number of top-ups behind which the share of a liquid can be at most a fraction; None for none."""
    check_pot(content, kept, liquid)
    check_share_to_reach(fraction)
    return steps_within((content[liquid], sum(content)), kept, fraction)


def fewest_at_least(content, kept, liquid, fraction):
    """The least number of top-ups behind which the share of a liquid can be at least a fraction; None for none."""
    check_pot(content, kept, liquid)
    check_share_to_reach(fraction)
    top, bottom = fraction
    # The other liquids have to shrink to what the fraction leaves them.
    others = sum(content) - content[liquid]
    return steps_within((others, sum(content)), kept, (bottom - top, bottom))


def reach_sets(kept, low, high, number):
    """For 0, 1 .. number top-ups, the stretches of the shares from which they can lead to a share from low to high."""
    check_kept(kept)
    check_share_to_reach(low)
    check_share_to_reach(high)
    check_number(number, 0, MOST_TO_REACH)
    return [told_stretches(stretches, bottom) for bottom, stretches in sets_back(kept, low, high, number)]


def fewest_between(content, kept, liquid, low, high):
    """A shortest list of booleans, whether each top-up is with the liquid, that lead to a share from low to high."""
    check_pot_to_reach(content, kept, liquid, low, high)
    sets = sets_back(kept, low, high, MOST_TO_REACH)
    return uses_through(content, kept, liquid, sets)


def shows_between(content, kept, liquid, low, high, thing):
    """Whether any object is a list that fewest_between may return."""
    check_pot_to_reach(content, kept, liquid, low, high)
    sets = sets_back(kept, low, high, MOST_TO_REACH)
    uses = uses_through(content, kept, liquid, sets)
    if uses is None or not is_list_of_uses(thing, len(uses)):
        return False
    top, bottom = content[liquid], sum(content)
    for use in thing:
        top, bottom = share_behind(top, bottom, kept, use)
    return is_reached(top, bottom, sets[0])


def check_pot(content, kept, liquid):
    check_content(content)
    if len(content) == 1:
        raise InvalidContent("a content of two or more liquids is needed")
    check_kept(kept)
    check_liquid(liquid, len(content))


def check_pot_to_reach(content, kept, liquid, low, high):
    check_pot(content, kept, liquid)
    check_share_to_reach(low)
    check_share_to_reach(high)


def is_list_of_uses(thing, number):
    if type(thing) != list or len(thing) != number:
        return False
    return all(isinstance(use, bool) for use in thing)


def sets_back(kept, low, high, number):
    """For 0, 1 .. number top-ups, a bottom with the ascending stretches from which they lead to low .. high.

    A stretch is a tuple of the tops of its least and its greatest share."""
    bottom = lcm(low[1], high[1])
    least = low[0] * (bottom // low[1])
    greatest = high[0] * (bottom // high[1])
    stretches = [(least, greatest)] if least <= greatest else []
    sets = [(bottom, stretches)]
    for _ in range(number):
        stretches = stretches_before(stretches, bottom, kept)
        bottom *= kept[0]
        sets.append((bottom, stretches))
    return sets


def stretches_before(stretches, bottom, kept):
    """From where one top-up leads into the stretches, over the bottom times a."""
    stays, whole = kept
    poured = (whole - stays) * bottom
    found = []
    for least, greatest in stretches:
        for added in (0, poured):
            low = max(0, least * whole - added)
            high = min(bottom * stays, greatest * whole - added)
            if low <= high:
                found.append((low, high))
    return joined(sorted(found))


def joined(stretches):
    """As few stretches as can be, of stretches with ascending least shares."""
    found = []
    for least, greatest in stretches:
        if found and least <= found[-1][1]:
            found[-1] = (found[-1][0], max(found[-1][1], greatest))
        else:
            found.append((least, greatest))
    return found


def told_stretches(stretches, bottom):
    return [(lowest_terms(least, bottom), lowest_terms(greatest, bottom)) for least, greatest in stretches]


def uses_through(content, kept, liquid, sets):
    """The uses of the liquid that lead from the first of the sets which has its share, set by set; None for none."""
    top, bottom = content[liquid], sum(content)
    for number in range(len(sets)):
        if is_reached(top, bottom, sets[number]):
            return uses_back(top, bottom, kept, sets[:number])
    return None


def uses_back(top, bottom, kept, sets):
    uses = []
    for goal in reversed(sets):
        # From a share within a set at least one of the two top-ups leads into the next one.
        without = share_behind(top, bottom, kept, False)
        use = not is_reached(without[0], without[1], goal)
        top, bottom = share_behind(top, bottom, kept, use)
        uses.append(use)
    return uses


def share_behind(top, bottom, kept, use):
    stays, whole = kept
    poured = (whole - stays) * bottom if use else 0
    return (top * stays + poured, bottom * whole)


def is_reached(top, bottom, goal):
    size, stretches = goal
    held = top * size
    return any(least * bottom <= held <= greatest * bottom for least, greatest in stretches)
