"""Top-ups: a share of the pot is kept, the rest is poured off and replaced by one liquid."""

from topups.basics import check_keeps, check_kept, check_liquid, check_row, without_divisor
from topups.contents import check_content
from topups.errors import InvalidRow


def topped(content, kept, liquid):
    """The content behind one top-up."""
    check_content(content)
    check_kept(kept)
    check_liquid(liquid, len(content))
    return content_behind(content, kept, liquid)


def topped_row(content, kept, row):
    """The content behind a top-up with each liquid of a row."""
    return contents_along(content, kept, row)[-1]


def contents_along(content, kept, row):
    """The contents behind 0, 1 .. all top-ups with the liquids of a row."""
    check_content(content)
    check_kept(kept)
    check_row(row, len(content))
    return contents_by(content, [kept] * len(row), row)


def topped_by(content, keeps, row):
    """The content behind a top-up with each liquid of a row, each by its own kept share."""
    check_content(content)
    check_keeps(keeps)
    check_row(row, len(content))
    if len(row) != len(keeps):
        raise InvalidRow("one liquid for each kept share is needed")
    return contents_by(content, keeps, row)[-1]


def content_behind(content, kept, liquid):
    stays, whole = kept
    mixture = [amount * stays for amount in content]
    mixture[liquid] += (whole - stays) * sum(content)
    return without_divisor(mixture)


def contents_by(content, keeps, row):
    # The first one is a copy: what is returned is never the list that was passed.
    contents = [list(content)]
    for kept, liquid in zip(keeps, row):
        contents.append(content_behind(contents[-1], kept, liquid))
    return contents
