"""Points 41, 49 and 53 once more, by the words of the document: the first fault of a paper, None if it is right.

A paper is looked at for a text, carets and a set of complaints that are usable.
"""

from tests import oracle
from tests.helper import WORDS, is_gap_set

NUMBER = range(10 ** 60)


def is_number(thing):
    return type(thing) is int and thing in NUMBER


def is_kind(thing):
    return type(thing) is str and len(thing) < 9 and all('a' <= sign <= 'z' for sign in thing)


def is_tuple(thing, long=None):
    return type(thing) is tuple and (long is None or len(thing) == long)


def is_row(thing):
    if not is_tuple(thing) or not thing or type(thing[0]) is not str:
        return False
    if thing[0] in ('let', 'use'):
        return len(thing) == 3 and all(is_kind(word) and word for word in thing[1:])
    if thing[0] == 'open' and len(thing) == 2:
        sort = thing[1]
        return sort in ('if', 'loop') if type(sort) is str else is_tuple(sort, 2) and sort[0] == 'fun' and is_kind(sort[1])
    return thing in (('end',), ('stop',)) or (thing[0] == 'give' and len(thing) == 2 and is_kind(thing[1]))


def is_way(thing):
    if not is_tuple(thing) or not all(is_tuple(step, 2) and is_number(step[0]) for step in thing):
        return False
    rows = all(is_tuple(step[1]) and step[1] and all(is_row(row) for row in step[1]) for step in thing)
    return rows and is_gap_set(tuple(gap for gap, _ in thing), 10 ** 60)


def is_set_of_pairs(thing):
    pairs = is_tuple(thing) and all(is_tuple(pair, 2) and is_number(pair[0]) and type(pair[1]) is str and pair[1] in WORDS
                                    for pair in thing)
    return pairs and list(thing) == sorted(set(thing))


def going_fault(text, carets, some, thing):
    """The fault of a going paper."""
    if not is_tuple(thing, 2) or type(thing[0]) is not str:
        return ('shape', -1)
    word, told = thing
    if not (word == 'goes' and is_way(told)) and not (word == 'stays' and is_set_of_pairs(told)):
        return ('shape', -1)
    if word == 'goes':
        faults = [('caret', gap) for gap, _ in told if gap not in carets]
        if not faults:
            gone, _ = oracle.changes(text, told, WORDS)
            faults = [('here', complaint) for complaint in some if complaint not in gone]
        return faults[0] if faults else None
    faults = [('some', pair) for pair in told if pair not in some]
    if faults:
        return faults[0]
    one = len(told) == 1 and oracle.sure(text, carets, told[0])
    return None if one or (told and oracle.ladder_test(text, carets, told)) else ('part', -1)


def steps_of(text, carets, some, caret, subject):
    """The choices of a walk, its layers, unlike(l, c) and change(l)."""
    pole, link = ('use', 'twice') if subject[0] == 'name' else ('give', 'stop')
    rows = [row for row in range(len(text)) if (oracle.segment(text, carets, row) or [None])[0] == caret]
    mine = [one for one in some if one[0] in rows and not oracle.sure(text, carets, one)
            and (pole == 'give' or text[one[0]][1:2] == subject[1:])]
    layers = max([oracle.layer(text, carets, row) + 1 for row in rows], default=0)
    poles = [(oracle.layer(text, carets, row), text[row][-1]) for row, word in mine if word == pole]
    links = [oracle.layer(text, carets, row) for row, word in mine if word == link]
    choices = sorted({kind for _, kind in poles})
    return choices, layers, lambda at, c: sum(at == other and c != kind for other, kind in poles), links.count


def is_subject(thing):
    return thing == ('fun',) if is_tuple(thing, 1) else is_tuple(thing, 2) and thing[0] == 'name' and is_kind(thing[1]) and thing[1] != ''


def walk_fault(text, carets, some, w, walks):
    """The fault of walk w of some that have the right form up to there."""
    caret, subject, layers = walks[w]
    if type(caret) is not int or caret not in carets or not is_subject(subject):
        return ('walk', w)
    choices, many, unlike, change = steps_of(text, carets, some, caret, subject)
    if not choices or (w > 0 and not walks[w - 1][:2] < (caret, subject)):
        return ('walk', w)
    if not is_tuple(layers, many):
        return ('layers', w)
    for pairs in layers:
        if not is_tuple(pairs) or not all(is_tuple(pair, 2) and is_kind(pair[0]) and is_number(pair[1]) for pair in pairs):
            return ('layers', w)
        if [kind for kind, _ in pairs] != choices:
            return ('layers', w)
    for at in range(many):
        for c, number in layers[at]:
            before = dict(layers[at - 1]) if at else {}
            most = [before[e] + (0 if e == c else change(at - 1)) for e in before] or [0]
            if any(number > unlike(at, c) + other for other in most):
                return ('number', (w, at))
    return None


def leaving_fault(text, carets, some, thing, ladders):
    """The fault of a leaving paper; ladders are all that are in some."""
    if not is_tuple(thing, 3) or type(thing[0]) is not str or thing[0] != 'left' or not is_tuple(thing[1]) or not is_tuple(thing[2]):
        return ('shape', -1)
    _, part, walks = thing
    if not all(is_tuple(walk, 3) for walk in walks):
        return ('shape', -1)
    if not is_set_of_pairs(part) or not set(part) <= set(some) or not oracle.goes(text, carets, part, ladders):
        return ('part', -1)
    for w in range(len(walks)):
        fault = walk_fault(text, carets, some, w, walks)
        if fault:
            return fault
    least = sum(min(number for _, number in walk[2][-1]) for walk in walks)
    least += sum(oracle.sure(text, carets, one) for one in some)
    return None if least == len(some) - len(part) else ('sum', -1)


def can_go(text, carets, some):
    """Whether some can go, by (S2) and the words of points 7 and 8."""
    return oracle.goes(text, carets, some, oracle.ladders(text, carets, some))


def is_span(text, thing):
    return (is_tuple(thing, 2) and all(is_number(gap) and gap <= len(text) for gap in thing)) and thing[0] <= thing[1]


def span_fault(text, some, thing):
    """The fault of a span paper."""
    if not is_tuple(thing, 3) or type(thing[0]) is not str or thing[0] != 'carets' or not is_tuple(thing[1]) or not is_tuple(thing[2]):
        return ('shape', -1)
    _, gaps, spans = thing
    if not all(is_tuple(element, 2) for element in spans):
        return ('shape', -1)
    if not is_gap_set(gaps, len(text)) or not can_go(text, gaps, some):
        return ('carets', -1)
    for k, (span, part) in enumerate(spans):
        if not is_span(text, span) or (k > 0 and span[0] <= spans[k - 1][0][1]):
            return ('span', k)
        outside = tuple(gap for gap in range(len(text) + 1) if gap not in range(span[0], span[1] + 1))
        if not is_set_of_pairs(part) or not set(part) <= set(some) or can_go(text, outside, part):
            return ('part', k)
    return None if len(spans) == len(gaps) else ('sum', -1)
