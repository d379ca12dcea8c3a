"""Events and logs by their form."""

from surelywrong.kinds import is_number, is_one_of, is_pair, is_row, is_text, is_triple
from surelywrong.usable import is_gaps_of


def is_event(thing):
    """Whether any value is an event by form."""
    if is_pair(thing):
        return is_one_of(thing[0], ("close",)) and is_number(thing[1])
    return is_triple(thing) and is_one_of(thing[0], ("put",)) and is_number(thing[1]) and is_row(thing[2])


def is_log(thing):
    """Whether any value is a beginning and then events by form, possible or not."""
    if not isinstance(thing, tuple) or len(thing) == 0:
        return False
    return is_beginning(thing[0]) and all([is_event(event) for event in thing[1:]])


def is_beginning(thing):
    """Whether any value is what a log tells first."""
    if not is_triple(thing) or not is_one_of(thing[0], ("writing",)):
        return False
    return is_text(thing[1]) and is_gaps_of(thing[1], thing[2])
