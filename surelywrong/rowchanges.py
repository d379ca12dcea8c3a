"""Texts that are changed in one place, or in their names."""

from surelywrong.errors import NotUsable
from surelywrong.kinds import is_name, is_pair, is_row, is_sort, is_text
from surelywrong.usable import check_gap, check_row, check_text


def with_row(text, row, new):
    """The text with new in the place of this row."""
    check_text(text)
    check_row(text, row)
    if not is_row(new):
        raise NotUsable("new", -1)
    return (*text[:row], new, *text[row + 1:])


def without_row(text, row):
    """The text without this row."""
    check_text(text)
    check_row(text, row)
    return (*text[:row], *text[row + 1:])


def put_in(text, gap, rows):
    """The text with rows put in at the gap."""
    check_text(text)
    check_gap(text, gap)
    if not is_text(rows):
        raise NotUsable("rows", -1)
    return (*text[:gap], *rows, *text[gap:])


def wrapped(text, first, last, sort):
    """The text with a block of this sort around the rows from first to last."""
    check_text(text)
    check_row(text, first)
    check_row(text, last)
    if last < first:
        raise NotUsable("row", last)
    if not is_sort(sort):
        raise NotUsable("sort", -1)
    return (*text[:first], ("open", sort), *text[first:last + 1], ("end",), *text[last + 1:])


def renamed(text, *pairs):
    """The text with the names changed as the pairs (old, other) tell."""
    check_text(text)
    others = others_of(pairs)
    return tuple([row_renamed(row, others) for row in text])


def rekinded(text, *pairs):
    """The text with the kinds changed as the pairs (old, other) tell."""
    check_text(text)
    others = others_of(pairs)
    return tuple([row_rekinded(row, others) for row in text])


def others_of(pairs):
    """The other name of each old one."""
    others = {}
    for k, pair in enumerate(pairs):
        if not is_pair(pair) or not is_name(pair[0]) or not is_name(pair[1]):
            raise NotUsable("pairs", k)
        old, other = pair
        if old in others:
            raise NotUsable("name", old)
        others[old] = other
    return others


def row_renamed(row, others):
    """The row with its name changed, if it has one."""
    if row[0] in ("let", "use"):
        return (row[0], others.get(row[1], row[1]), row[2])
    return row


def row_rekinded(row, others):
    """The row with its kind changed, if it has one; the kind "" is never an old one."""
    if row[0] in ("let", "use"):
        return (row[0], row[1], others.get(row[2], row[2]))
    if row[0] == "give":
        return ("give", others.get(row[1], row[1]))
    if row[0] == "open" and is_pair(row[1]):
        kind = row[1][1]
        return ("open", ("fun", others.get(kind, kind)))
    return row
