"""Checkers of carets and of ways."""

from surelywrong.errors import InvalidPaper
from surelywrong.kinds import is_gaps, is_way
from surelywrong.usable import check_carets, check_text, is_gap_of


def lets_carets(text, thing):
    """How many gaps a set of gaps of the text has."""
    check_text(text)
    if not is_gaps(thing):
        raise InvalidPaper("shape", -1)
    for gap in thing:
        if not is_gap_of(text, gap):
            raise InvalidPaper("gap", gap)
    return len(thing)


def lets_way(text, carets, thing):
    """How many rows a way at the carets puts in."""
    check_text(text)
    check_carets(text, carets)
    if not is_way(thing):
        raise InvalidPaper("shape", -1)
    for gap, _ in thing:
        if gap not in carets:
            raise InvalidPaper("caret", gap)
    return sum([len(rows) for _, rows in thing])
