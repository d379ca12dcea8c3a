"""Events and logs, read from lines."""

from surelywrong.errors import InvalidText, NotUsable
from surelywrong.rowreadings import check_string, fault_of_gaps, fault_of_words, gaps_of_words, is_numeral, row_of_words


def read_event(line):
    """The event that a string writes."""
    check_string("line", line)
    return event_of_words(0, line.split(" "))


def read_log(lines):
    """The log that a list of strings writes."""
    if not is_lines(lines):
        raise NotUsable("lines", -1)
    if not lines:
        raise InvalidText(0, 0)
    many, carets = beginning_of_words(lines[0].split(" "))
    rows = [row_of_words(k + 1, line.split(" ")) for k, line in enumerate(lines[1:many + 1])]
    if len(rows) < many:
        raise InvalidText(len(lines), 0)
    events = [event_of_words(many + 1 + k, line.split(" ")) for k, line in enumerate(lines[many + 1:])]
    return (("writing", tuple(rows), carets), *events)


def is_lines(thing):
    """Whether any value is a list of strings without newlines."""
    return isinstance(thing, list) and all([isinstance(line, str) and "\n" not in line for line in thing])


def beginning_of_words(words):
    """The number of rows and the carets that the first line of a log tells."""
    field = fault_of_beginning(words)
    if field is not None:
        raise InvalidText(0, field)
    return (int(words[1]), gaps_of_words(words[2:]))


def event_of_words(line, words):
    """The event with these words; line is the number that InvalidText tells."""
    field = fault_of_event(words)
    if field is not None:
        raise InvalidText(line, field)
    gap = int(words[1])
    return ("close", gap) if words[0] == "close" else ("put", gap, row_of_words(line, words[2:]))


def fault_of_beginning(words):
    """The index of the first word that cannot stand in a first line, or their number if one is missing, or None."""
    field = fault_of_start(words, ("writing",))
    if field is not None:
        return field
    return 2 if len(words) == 2 else behind_start(fault_of_gaps(words[2:], int(words[1])))


def fault_of_event(words):
    """The index of the first word that cannot stand in an event, or their number if one is missing, or None."""
    field = fault_of_start(words, ("put", "close"))
    if field is not None:
        return field
    if words[0] == "close":
        return 2 if len(words) > 2 else None
    return 2 if len(words) == 2 else behind_start(fault_of_words(words[2:]))


def fault_of_start(words, firsts):
    """The index of what is wrong with a first word, one of these, and a number behind it; None if nothing is."""
    if words[0] not in firsts:
        return 0
    return None if len(words) > 1 and is_numeral(words[1]) else 1


def behind_start(field):
    """The index in a line of a word that stands behind a first word and a number."""
    return None if field is None else field + 2
