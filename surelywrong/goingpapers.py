"""Papers that show whether a set of complaints can go."""

from surelywrong.going import way_in
from surelywrong.laddering import ladder_among
from surelywrong.sureness import some_stretches, sure_among


def going_paper(text, carets, some):
    """A going paper: a way by which all goes, or a part of the set that stays."""
    stretches = some_stretches(text, carets, some)
    sure = sure_among(stretches, carets, some)
    # One sure complaint is enough, and nothing less than a ladder.
    part = sure[:1] or ladder_among(text, carets, some)
    return ("stays", part) if part else ("goes", way_in(text, carets, some))
