"""Papers that show how few carets will do."""

from surelywrong.going import staying_part
from surelywrong.spanning import caret_for_each, gaps_outside, spans_apart
from surelywrong.sureness import some_stretches


def span_paper(text, some):
    """A span paper: gaps at which all goes, and as many spans apart with a part that needs a caret in each."""
    stretches = some_stretches(text, (), some)
    apart = spans_apart(text, stretches, some)
    parts = [staying_part(text, stretches, gaps_outside(text, span), some) for span in apart]
    return ("carets", caret_for_each(apart), tuple(list(zip(apart, parts))))
