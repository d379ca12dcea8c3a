"""Spans of gaps in which a caret is needed, and the fewest carets."""

from surelywrong.errors import NotUsable
from surelywrong.going import can_go_in
from surelywrong.kinds import is_pair
from surelywrong.sureness import checked_stretches, some_stretches
from surelywrong.usable import check_some, is_gap_of


def is_needed(text, span, some):
    """Whether a set of complaints cannot go if all gaps outside of a span are carets."""
    stretches = checked_stretches(text, ())
    if not is_span(text, span):
        raise NotUsable("span", -1)
    check_some(stretches, some)
    return is_needed_in(text, stretches, span, some)


def needed_spans(text, some):
    """The set of the needed spans in which no other needed one lies."""
    return needed_in(text, some_stretches(text, (), some), some)


def fewest_carets(text, some):
    """A set of as few gaps as possible at which a set of complaints can go."""
    return caret_for_each(spans_apart(text, some_stretches(text, (), some), some))


def helping_gaps(text, carets, some):
    """The set of the gaps with which, beside the carets, a set of complaints can go."""
    stretches = some_stretches(text, carets, some)
    gaps = range(len(text) + 1)
    return tuple([gap for gap in gaps if can_go_in(text, stretches, tuple(sorted(set([*carets, gap]))), some)])


def is_span(text, thing):
    """Whether any value is a span of the text."""
    return is_pair(thing) and all([is_gap_of(text, gap) for gap in thing]) and thing[0] <= thing[1]


def gaps_outside(text, span):
    """The set of the gaps of the text that a span does not have."""
    first, last = span
    return tuple([gap for gap in range(len(text) + 1) if not first <= gap <= last])


def is_needed_in(text, stretches, span, some):
    """What is_needed returns, for what is known to be usable."""
    return not can_go_in(text, stretches, gaps_outside(text, span), some)


def needed_in(text, stretches, some):
    """What needed_spans returns, for what is known to be usable."""
    firsts = {}
    last = 0
    for first in range(len(text) + 1):
        # A span that lies in one that is not needed is not needed either, so last never goes back.
        last = max(first, last)
        while last <= len(text) and not is_needed_in(text, stretches, (first, last), some):
            last = last + 1
        if last <= len(text):
            # The one that begins behind the others with this last gap lies in them.
            firsts[last] = first
    return tuple([(first, last) for last, first in firsts.items()])


def spans_apart(text, stretches, some):
    """As many needed spans as possible, no two of which have a gap in common, ascending."""
    apart = []
    for first, last in needed_in(text, stretches, some):
        # The spans end one behind the other, so the one that ends first hinders the fewest.
        if not apart or first > apart[-1][1]:
            apart.append((first, last))
    return apart


def caret_for_each(apart):
    """The last gap of each of these spans: a gap that each needed span that ends there or reaches over it has."""
    return tuple([last for _, last in apart])
