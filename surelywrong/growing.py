"""Texts that grow by ways, and what complaints become in them."""

from surelywrong.complaining import complaints_in
from surelywrong.usable import check_row, check_text, check_way


def grown(text, way):
    """The text with the rows of a way put in."""
    check_text(text)
    check_way(text, way)
    return grown_in(text, way)


def moved(text, way, row):
    """The number that a row of the text has in the grown text."""
    check_text(text)
    check_way(text, way)
    check_row(text, row)
    return old_rows(text, way).index(row)


def old_row(text, way, row):
    """The number that a row of the grown text has in the text, None if it was put in."""
    check_text(text)
    check_way(text, way)
    olds = old_rows(text, way)
    check_row(olds, row)
    return olds[row]


def gone_by(text, way):
    """The set of the complaints of the text that are gone by a way."""
    check_text(text)
    check_way(text, way)
    return gone_in(text, way)


def new_by(text, way):
    """The set of the complaints of the grown text that the text does not have."""
    check_text(text)
    check_way(text, way)
    return new_in(text, way)


def grown_in(text, way):
    """The grown text of what is known to be a text and a way."""
    rows = []
    done = 0
    for gap, more in way:
        rows = [*rows, *text[done:gap], *more]
        done = gap
    return (*rows, *text[done:])


def old_rows(text, way):
    """For each row of the grown text its number in the text, None if it was put in."""
    olds = []
    done = 0
    for gap, more in way:
        olds = [*olds, *range(done, gap), *[None for _ in more]]
        done = gap
    return (*olds, *range(done, len(text)))


def gone_in(text, way):
    """What gone_by returns, for what is known to be a text and a way."""
    olds = old_rows(text, way)
    still = [(olds[row], word) for row, word in complaints_in(grown_in(text, way))]
    return tuple([complaint for complaint in complaints_in(text) if complaint not in still])


def new_in(text, way):
    """What new_by returns, for what is known to be a text and a way."""
    olds = old_rows(text, way)
    before = complaints_in(text)
    return tuple([(row, word) for row, word in complaints_in(grown_in(text, way)) if (olds[row], word) not in before])
