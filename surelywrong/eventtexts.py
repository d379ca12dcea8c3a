"""Events and logs, written as lines."""

from surelywrong.errors import NotUsable
from surelywrong.eventkinds import is_event
from surelywrong.moments import check_log
from surelywrong.rowtexts import gaps_words, row_line


def event_line(event):
    """The line of an event."""
    if not is_event(event):
        raise NotUsable("event", -1)
    word, gap, *rows = event
    return " ".join([word, str(gap), *[row_line(row) for row in rows]])


def log_lines(log):
    """The lines of a log, as a list: the beginning, its rows, and the events."""
    check_log(log)
    (_, rows, carets), *events = log
    first = f"writing {len(rows)} {gaps_words(carets)}"
    return [first, *[row_line(row) for row in rows], *[event_line(event) for event in events]]
