"""What is raised for arguments that cannot be used."""

from surelywrong.errors import NotUsable
from surelywrong.kinds import is_gaps, is_number, is_row


def check_rows(word, rows):
    """Raise NotUsable, with this word, if rows is no tuple of rows."""
    if not isinstance(rows, tuple):
        raise NotUsable(word, -1)
    for k, row in enumerate(rows):
        if not is_row(row):
            raise NotUsable(word, k)


def check_text(text):
    """Raise NotUsable if text is no text."""
    check_rows("text", text)


def check_carets(text, carets):
    """Raise NotUsable if carets is no set of gaps of the text."""
    if not is_gaps(carets) or not all([is_gap_of(text, caret) for caret in carets]):
        raise NotUsable("carets", -1)


def check_row(text, row):
    """Raise NotUsable if the text has no row of this number."""
    if not is_number(row) or row >= len(text):
        raise NotUsable("row", row)


def check_row_like(text, row, word):
    """Raise NotUsable if the text has no row of this number that begins with this word."""
    check_row(text, row)
    if text[row][0] != word:
        raise NotUsable("row", row)


def check_gap(text, gap):
    """Raise NotUsable if the text has no such gap."""
    if not is_gap_of(text, gap):
        raise NotUsable("gap", gap)


def is_gap_of(text, gap):
    """Whether any value is a gap of the text."""
    return is_number(gap) and gap <= len(text)
