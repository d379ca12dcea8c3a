"""A checker of papers that show how few carets will do."""

from surelywrong.errors import InvalidPaper
from surelywrong.going import can_go_in
from surelywrong.kinds import is_one_of, is_pair, is_triple
from surelywrong.spanning import is_needed_in, is_span
from surelywrong.sureness import some_stretches
from surelywrong.usable import is_gaps_of, is_part_of


def lets_spans(text, some, thing):
    """The number of the gaps of a right paper: no fewer carets will do."""
    stretches = some_stretches(text, (), some)
    if not is_span_paper(thing):
        raise InvalidPaper("shape", -1)
    _, gaps, spans = thing
    if not is_gaps_of(text, gaps) or not can_go_in(text, stretches, gaps, some):
        raise InvalidPaper("carets", -1)
    behind = 0
    for k, (span, part) in enumerate(spans):
        if not is_span(text, span) or span[0] < behind:
            raise InvalidPaper("span", k)
        if not is_part_of(some, part) or not is_needed_in(text, stretches, span, part):
            raise InvalidPaper("part", k)
        behind = span[1] + 1
    if len(spans) != len(gaps):
        raise InvalidPaper("sum", -1)
    return len(gaps)


def is_span_paper(thing):
    """Whether any value is a span paper by its form."""
    if not is_triple(thing) or not is_one_of(thing[0], ("carets",)):
        return False
    _, gaps, spans = thing
    return isinstance(gaps, tuple) and isinstance(spans, tuple) and all([is_pair(element) for element in spans])
