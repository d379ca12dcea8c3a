"""Points 59 to 62 and 67 to 69 once more, to compare with: a moment is a list of rows with their births, and None for each caret."""

from tests.helper import is_gap_set, some_carets, some_row, some_texts
from tests.paperoracle import is_number, is_row, is_tuple


def begun(rows, carets):
    tokens = []
    for gap in range(len(rows) + 1):
        tokens += [None] * (gap in carets) + ([(gap, rows[gap])] if gap < len(rows) else [])
    return tokens


def rows_in(tokens):
    return tuple(token[1] for token in tokens if token)


def births_in(tokens):
    return tuple(token[0] for token in tokens if token)


def carets_in(tokens):
    return tuple(len(rows_in(tokens[:at])) for at, token in enumerate(tokens) if token is None)


def applied(tokens, event):
    """The tokens behind a possible event; a row comes in ahead of its caret."""
    at = [at for at, token in enumerate(tokens) if token is None][carets_in(tokens).index(event[1])]
    if event[0] == 'close':
        return tokens[:at] + tokens[at + 1:]
    return tokens[:at] + [(len(rows_in(tokens)), event[2])] + tokens[at:]


def moments(log):
    """The tokens of each moment of a log whose events are possible."""
    told = [begun(*log[0][1:])]
    for event in log[1:]:
        told.append(applied(told[-1], event))
    return told


def is_event(thing):
    if is_tuple(thing, 2):
        return type(thing[0]) is str and thing[0] == 'close' and is_number(thing[1])
    return is_tuple(thing, 3) and type(thing[0]) is str and thing[0] == 'put' and is_number(thing[1]) and is_row(thing[2])


def is_log(thing):
    if not is_tuple(thing) or not thing or not is_tuple(thing[0], 3) or type(thing[0][0]) is not str or thing[0][0] != 'writing':
        return False
    _, rows, carets = thing[0]
    return is_tuple(rows) and all(map(is_row, rows)) and is_gap_set(carets, len(rows)) and all(map(is_event, thing[1:]))


def reason(event, tokens, many, shut=False, most=40):
    """Why an event is refused behind so many others."""
    if not is_event(event):
        return 'shape'
    if shut:
        return 'closed'
    if many >= most:
        return 'full'
    return None if event[1] in carets_in(tokens) else 'caret'


def is_usable(log):
    """Whether a value is a log all of whose events are possible."""
    if not is_log(log):
        return False
    tokens = begun(*log[0][1:])
    for event in log[1:]:
        if event[1] not in carets_in(tokens):
            return False
        tokens = applied(tokens, event)
    return True


def some_event(chance, tokens, closing=0.08):
    """An event that is possible, None if there is no caret."""
    carets = carets_in(tokens)
    if not carets:
        return None
    gap = chance.choice(carets)
    return ('close', gap) if chance.random() < closing else ('put', gap, some_row(chance))


def grown_log(chance, log, many, closing=0.08):
    """The log with up to so many possible events more."""
    tokens = moments(log)[-1]
    for _ in range(many):
        event = some_event(chance, tokens, closing)
        if event is None:
            break
        log, tokens = (*log, event), applied(tokens, event)
    return log


def some_logs(chance, many, longest, events, closing=0.08, seed=1):
    """Logs of possible events, with so many rows and events at the most."""
    for text in some_texts(many, longest, seed=seed):
        carets = some_carets(chance, text, 5) or (len(text),)
        yield grown_log(chance, (('writing', text, carets),), chance.randint(0, events), closing)


def way_events(way):
    """The events that put in what a way does, at its gaps as carets."""
    events, done = [], 0
    for gap, rows in way:
        events += [('put', gap + done + k, row) for k, row in enumerate(rows)]
        done += len(rows)
    return tuple(events)
