"""A desk: a writing that is led by strings, and answers with strings."""

from surelywrong.complaining import complaints_of
from surelywrong.errors import InvalidRow, InvalidText
from surelywrong.eventreadings import read_event, read_log
from surelywrong.eventtexts import event_line
from surelywrong.rowtexts import complaint_word, gaps_words, row_line
from surelywrong.writings import Writing


def undone(writing):
    """The line of the last event, which is taken back."""
    return event_line(writing.undo())


def shut(writing):
    """ok, and the writing is shut."""
    writing.shut()
    return "ok"


def rows_told(writing):
    """The lines of the rows."""
    return " / ".join([row_line(row) for row in writing.rows]) or "-"


def log_told(writing):
    """The lines of the events."""
    return " / ".join([event_line(event) for event in writing.log()[1:]]) or "-"


def carets_told(writing):
    """The carets."""
    return gaps_words(writing.carets)


def sure_told(writing):
    """The complaints that are sure."""
    return complaint_words(writing.sure)


def held_told(writing):
    """The complaints that are not sure."""
    return complaint_words(writing.held)


def all_told(writing):
    """All complaints of the text."""
    return complaint_words(complaints_of(writing.rows))


def births_told(writing):
    """The births of the rows."""
    return " ".join([str(birth) for birth in writing.births]) or "-"


def events_told(writing):
    """How many events there are."""
    return str(len(writing))


def moments_told(writing):
    """How many moments there are."""
    return str(len(writing.moments))


# What a desk does with its writing for rows of one word.
DEEDS = {
    "undo": undone,
    "shut": shut,
    "rows": rows_told,
    "log": log_told,
    "carets": carets_told,
    "sure": sure_told,
    "held": held_told,
    "births": births_told,
    "all": all_told,
    "events": events_told,
    "moments": moments_told,
}


class Desk:
    """A writing that is led, and asked, by rows."""

    def __init__(self):
        self._writing = Writing()
        self._calls = 0

    def say(self, row):
        """The answer to a row."""
        self._calls = self._calls + 1
        if not isinstance(row, str):
            raise InvalidRow(row)
        if row in DEEDS:
            deed = DEEDS[row]
            return deed(self._writing)
        first, _, rest = row.partition(" ")
        if first == "writing":
            self._writing = begun(row)
            return "ok"
        if first == "bars":
            return self._writing.barred(event_told(row, rest)) or "-"
        return complaint_words(self._writing.go(event_told(row, row)))

    def counts(self):
        """How many calls of say were started, and how many finished."""
        # None of them calls anything that could ask meanwhile: each one that was started is finished.
        return (self._calls, self._calls)


def complaint_words(complaints):
    """The words of a set of complaints."""
    return " ".join([complaint_word(complaint) for complaint in complaints]) or "-"


def event_told(row, line):
    """The event that a line of a row writes."""
    try:
        return read_event(line)
    except InvalidText:
        raise InvalidRow(row) from None


def begun(row):
    """The new Writing that a row tells: the lines of a log without events."""
    (_, rows, carets), *events = log_in(row)
    if events:
        raise InvalidRow(row)
    return Writing(rows, carets)


def log_in(row):
    """The log whose lines a row is."""
    try:
        return read_log(row.split("\n"))
    except InvalidText:
        raise InvalidRow(row) from None
