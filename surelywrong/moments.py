"""The moments of a writing: each is a triple of its text, its carets and the births of its rows."""

from surelywrong.errors import NotUsable
from surelywrong.eventkinds import is_log
from surelywrong.sureness import sure_ones


def first_moment(rows, carets):
    """The moment at the beginning."""
    return (rows, carets, tuple(range(len(rows))))


def is_possible(moment, event):
    """Whether the gap of an event is a caret of a moment."""
    return event[1] in moment[1]


def next_moment(moment, event):
    """The moment behind an event that is possible."""
    rows, carets, births = moment
    gap = event[1]
    if event[0] == "close":
        return (rows, tuple([caret for caret in carets if caret != gap]), births)
    return (
        (*rows[:gap], event[2], *rows[gap:]),
        tuple([caret + 1 if caret >= gap else caret for caret in carets]),
        # No row ever leaves a writing, so there were as many births as there are rows.
        (*births[:gap], len(births), *births[gap:]),
    )


def check_log(log):
    """Raise NotUsable if log is no log."""
    if not is_log(log):
        raise NotUsable("log", -1)


def moments_of(log):
    """All moments of a log; NotUsable if it is none, or one of its events is not possible."""
    check_log(log)
    (_, rows, carets), *events = log
    moments = [first_moment(rows, carets)]
    for event in events:
        if not is_possible(moments[-1], event):
            raise NotUsable("log", -1)
        moments.append(next_moment(moments[-1], event))
    return moments


def sure_at(moment):
    """The set of the complaints that are sure at a moment."""
    rows, carets, _ = moment
    return sure_ones(rows, carets)


def by_births(moment, pairs):
    """Pairs of a row and a word of a moment, told by births, ascending; those with a number of no row are left out."""
    births = moment[2]
    return tuple(sorted([(births[row], word) for row, word in pairs if row < len(births)]))
