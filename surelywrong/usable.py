"""What is raised for arguments that cannot be used."""

from surelywrong.errors import NotUsable
from surelywrong.kinds import is_complaint, is_complaints, is_gaps, is_number, is_row, is_way


def check_rows(word, rows):
    """Raise NotUsable, with this word, if rows is no tuple of rows."""
    if not isinstance(rows, tuple):
        raise NotUsable(word, -1)
    for k, row in enumerate(rows):
        if not is_row(row):
            raise NotUsable(word, k)


def check_text(text):
    """Raise NotUsable if text is no text."""
    check_rows("text", text)


def check_carets(text, carets):
    """Raise NotUsable if carets is no set of gaps of the text."""
    if not is_gaps_of(text, carets):
        raise NotUsable("carets", -1)


def check_row(text, row):
    """Raise NotUsable if the text has no row of this number."""
    if not is_number(row) or row >= len(text):
        raise NotUsable("row", row)


def check_row_like(text, row, word):
    """Raise NotUsable if the text has no row of this number that begins with this word."""
    check_row(text, row)
    if text[row][0] != word:
        raise NotUsable("row", row)


def check_gap(text, gap):
    """Raise NotUsable if the text has no such gap."""
    if not is_gap_of(text, gap):
        raise NotUsable("gap", gap)


def check_complaint(complaints, complaint):
    """Raise NotUsable if this is none of the complaints of a text."""
    if not is_complaint(complaint) or complaint not in complaints:
        raise NotUsable("complaint", complaint)


def check_some(complaints, some):
    """Raise NotUsable if some is no set of these complaints of a text."""
    if not is_complaints(some):
        raise NotUsable("some", -1)
    for complaint in some:
        check_complaint(complaints, complaint)


def check_way(text, way):
    """Raise NotUsable if way is no way at the gaps of the text."""
    if not is_way(way) or not all([is_gap_of(text, gap) for gap, _ in way]):
        raise NotUsable("way", -1)


def is_gap_of(text, gap):
    """Whether any value is a gap of the text."""
    return is_number(gap) and gap <= len(text)


def is_gaps_of(text, thing):
    """Whether any value is a set of gaps of the text."""
    return is_gaps(thing) and all([is_gap_of(text, gap) for gap in thing])


def is_part_of(some, thing):
    """Whether any value is a set of complaints of some."""
    return is_complaints(thing) and all([complaint in some for complaint in thing])
