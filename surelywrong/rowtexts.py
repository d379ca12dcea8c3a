"""Rows, texts, sets of numbers and complaints, written as strings."""

from surelywrong.errors import NotUsable
from surelywrong.kinds import is_complaint, is_gaps, is_pair, is_row
from surelywrong.usable import check_text


def row_line(row):
    """The line of a row."""
    if not is_row(row):
        raise NotUsable("row", -1)
    words = [*row[:1], *row[1]] if is_pair(row) and is_pair(row[1]) else list(row)
    # No word of a row is empty but a kind.
    return " ".join([word or "-" for word in words])


def text_lines(text):
    """The lines of a text, with newlines between."""
    check_text(text)
    return "\n".join([row_line(row) for row in text])


def gaps_words(gaps):
    """The numbers of a set, or - for none."""
    if not is_gaps(gaps):
        raise NotUsable("gaps", -1)
    return " ".join([str(gap) for gap in gaps]) or "-"


def complaint_word(complaint):
    """A complaint as one word: its number, a colon, its word."""
    if not is_complaint(complaint):
        raise NotUsable("complaint", -1)
    row, word = complaint
    return f"{row}:{word}"
