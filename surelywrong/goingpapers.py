"""Papers that show whether a set of complaints can go."""

from surelywrong.going import staying_part, way_in
from surelywrong.sureness import some_stretches


def going_paper(text, carets, some):
    """A going paper: a way by which all goes, or a part of the set that stays."""
    stretches = some_stretches(text, carets, some)
    part = staying_part(text, stretches, carets, some)
    return ("stays", part) if part else ("goes", way_in(text, carets, some))
