"""A checker of papers that show whether a set of complaints can go."""

from surelywrong.errors import InvalidPaper
from surelywrong.growing import gone_in
from surelywrong.kinds import is_complaints, is_one_of, is_pair, is_way
from surelywrong.laddering import ladder_among
from surelywrong.sureness import held_among, some_stretches, sure_among


def lets_going(text, carets, some, thing):
    """True for a right paper that all goes, False for a right one that something stays."""
    stretches = some_stretches(text, carets, some)
    if not is_going_paper(thing):
        raise InvalidPaper("shape", -1)
    word, told = thing
    if word == "goes":
        check_goes(text, carets, some, told)
    else:
        check_stays(text, stretches, carets, some, told)
    return word == "goes"


def is_going_paper(thing):
    """Whether any value is a going paper by its form."""
    if not is_pair(thing):
        return False
    goes = is_one_of(thing[0], ("goes",)) and is_way(thing[1])
    return goes or (is_one_of(thing[0], ("stays",)) and is_complaints(thing[1]))


def check_goes(text, carets, some, way):
    """Raise InvalidPaper if this is no way at the carets by which all of some is gone."""
    for gap, _ in way:
        if gap not in carets:
            raise InvalidPaper("caret", gap)
    gone = gone_in(text, way)
    for complaint in some:
        if complaint not in gone:
            raise InvalidPaper("here", complaint)


def check_stays(text, stretches, carets, some, part):
    """Raise InvalidPaper if this is no part of some that is one sure complaint or a ladder."""
    for pair in part:
        if pair not in some:
            raise InvalidPaper("some", pair)
    sure = sure_among(stretches, carets, part)
    is_one_sure = len(part) == 1 and len(sure) == 1
    # Nothing less than a ladder has a ladder in it.
    is_whole = len(part) > 0 and ladder_among(text, carets, held_among(stretches, carets, part)) == part
    if not is_one_sure and not is_whole:
        raise InvalidPaper("part", -1)
