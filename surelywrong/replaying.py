"""Writings made anew from logs."""

from surelywrong.moments import check_log
from surelywrong.writings import Writing


def replayed(log):
    """A new Writing behind the events of a log."""
    check_log(log)
    (_, rows, carets), *events = log
    writing = Writing(rows, carets)
    writing.follow(events)
    return writing
