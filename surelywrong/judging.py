"""Checkers judged by what they show along a log."""

from surelywrong.complaining import complaints_in
from surelywrong.moments import by_births, moments_of


def shown_along(log, checker):
    """For each moment the set of what a checker shows, told by births."""
    moments = moments_of(log)
    return tuple([by_births(moment, checker(log[:k + 1])) for k, moment in enumerate(moments)])


def fault_of(log, checker):
    """The first moment at which a checker is at fault, the pair and the reason; None if it never is."""
    known = ()
    for k, moment in enumerate(moments_of(log)):
        shown = checker(log[:k + 1])
        fault = fault_at(moment, known, shown)
        if fault is not None:
            return (k, *fault)
        known = by_births(moment, shown)
    return None


def no_sooner(log, checker, other):
    """Whether at each moment the other checker shows all that the first one does."""
    sooner = []
    for k, moment in enumerate(moments_of(log)):
        told = by_births(moment, checker(log[:k + 1]))
        known = by_births(moment, other(log[:k + 1]))
        sooner = [*sooner, *[pair for pair in told if pair not in known]]
    return not sooner


def fault_at(moment, known, shown):
    """The least pair because of which it is a fault to show this, and the reason; None if it is none.

    What was shown before, and is not to be taken back, is known by births.
    """
    rows, _, births = moment
    complaints = complaints_in(rows)
    false = [pair for pair in shown if pair not in complaints]
    if false:
        return (min(false), "false")
    told = by_births(moment, shown)
    taken = [(births.index(birth), word) for birth, word in known if (birth, word) not in told]
    return (min(taken), "back") if taken else None
