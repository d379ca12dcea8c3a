"""Points 3 to 8 once more, slowly and by their words, to compare with."""

from functools import lru_cache
from itertools import combinations


@lru_cache(maxsize=None)
def end_row(text, row):
    """The end row that closes the block of this open row: the first one behind it that is left over."""
    depth = 1
    for later in range(row + 1, len(text)):
        depth += {'open': 1, 'end': -1}.get(text[later][0], 0)
        if depth == 0:
            return later
    return None


def opens(text):
    return [row for row in range(len(text)) if text[row][0] == 'open']


@lru_cache(maxsize=None)
def stray_ends(text):
    """The end rows that close no block, so each of them a ground."""
    closing = [end_row(text, row) for row in opens(text)]
    return [row for row in range(len(text)) if text[row] == ('end',) and row not in closing]


@lru_cache(maxsize=None)
def blocks_around(text, row):
    """The open rows of the blocks that a row stands in, from the outside in."""
    ends = {block: end_row(text, block) for block in opens(text) if block < row}
    return [block for block, end in ends.items() if end is None or row <= end]


@lru_cache(maxsize=None)
def ground(text, row):
    return max([-1, *[end for end in stray_ends(text) if end < row]])


def level(text, row):
    return (blocks_around(text, row) or [ground(text, row)])[-1]


@lru_cache(maxsize=None)
def places(text):
    """The block or ground of each row."""
    return [level(text, row) for row in range(len(text))]


@lru_cache(maxsize=None)
def found_let(text, row):
    at = places(text)
    for block in [*blocks_around(text, row)[::-1], ground(text, row)]:
        lets = [let for let in range(row) if text[let][:2] == ('let', text[row][1]) and at[let] == block]
        if lets:
            return lets[-1]
    return None


@lru_cache(maxsize=None)
def function(text, row):
    around = [block for block in blocks_around(text, row) if text[block][1][0] == 'fun']
    return max(around, default=None)


@lru_cache(maxsize=None)
def loop(text, row):
    inside = function(text, row)
    around = [block for block in blocks_around(text, row) if text[block][1] == 'loop']
    return max([block for block in around if inside is None or block > inside], default=None)


def reign(text, row):
    at = places(text)
    same_level = [later for later in range(row + 1, len(text)) if at[later] == at[row]]
    ends = [later for later in same_level if text[later] == ('end',) or text[later][:2] == text[row][:2]]
    return (row + 1, min([*ends, len(text)]))


def complaint_test(text, row, word):
    """Whether this row has a complaint of this word."""
    kind, at = text[row][0], places(text)
    above = [text[other] for other in range(row) if at[other] == at[row]]
    if word == 'use':
        let = found_let(text, row) if kind == 'use' else None
        return kind == 'use' and (let is None or text[let][2] != text[row][2])
    if word == 'unused':
        uses = [use for use in range(len(text)) if text[use][0] == 'use']
        return kind == 'let' and all(found_let(text, use) != row for use in uses)
    if word == 'twice':
        return kind == 'let' and any(other[:2] == text[row][:2] for other in above)
    if word == 'stop':
        return kind == 'stop' and loop(text, row) is None
    if word == 'give':
        inside = function(text, row)
        return kind == 'give' and (inside is None or text[inside][1] != ('fun', text[row][1]))
    if word == 'after':
        return kind != 'end' and any(other[0] in ('stop', 'give') for other in above)
    if word == 'falls':
        gives = [other for other in range(len(text)) if at[other] == row and text[other][0] == 'give']
        return kind == 'open' and text[row][1][0] == 'fun' and text[row][1][1] != '' and not gives
    if word == 'open':
        return kind == 'open' and end_row(text, row) is None
    return kind == 'end' and row in stray_ends(text)


def complaints(text, words):
    """All complaints of a text, ascending."""
    return tuple((row, word) for row in range(len(text)) for word in words if complaint_test(text, row, word))


@lru_cache(maxsize=None)
def cause(text, row, word):
    """The cause of a complaint by point 7, -1 if there is none."""
    at = places(text)
    above = [other for other in range(row) if at[other] == at[row]]
    found = {
        'use': lambda: found_let(text, row),
        'twice': lambda: max(other for other in above if text[other][:2] == text[row][:2]),
        'stop': lambda: function(text, row),
        'give': lambda: function(text, row),
        'after': lambda: max(other for other in above if text[other][0] in ('stop', 'give')),
        'end': lambda: None,
    }.get(word, lambda: row)()
    return -1 if found is None else found


@lru_cache(maxsize=None)
def stretch(text, row, word):
    """The first and the last gap of the stretch of a complaint by point 7."""
    first = cause(text, row, word) + 1
    if word == 'unused':
        return (first, reign(text, row)[1])
    if word == 'falls':
        end = end_row(text, row)
        return (first, len(text) if end is None else end)
    return (first, len(text) if word == 'open' else row)


def tagged(text, way):
    """The rows of the grown text, each with its old number or None."""
    rows = list(enumerate(text))
    for gap, more in way[::-1]:
        rows[gap:gap] = [(None, row) for row in more]
    return rows


def changes(text, way, words):
    """What is gone by a way, and what is new."""
    rows = tagged(text, way)
    after = complaints(tuple(row for _, row in rows), words)
    told = [(rows[row][0], word) for row, word in after]
    before = complaints(text, words)
    return (tuple(one for one in before if one not in told), tuple(new for new, old in zip(after, told) if old not in before))


def sure(text, carets, complaint):
    first, last = stretch(text, *complaint)
    return not any(caret in carets for caret in range(first, last + 1))


@lru_cache(maxsize=None)
def segment(text, carets, row):
    """The rows of the segment of a row, None if it is in none."""
    ahead = [caret for caret in carets if caret <= row]
    behind = [caret for caret in carets if caret > row]
    return range(ahead[-1], min([*behind, len(text)])) if ahead else None


@lru_cache(maxsize=None)
def layer(text, carets, row):
    """The number of the end rows above in the segment that close no block opened in it."""
    rows = segment(text, carets, row)
    inside = [end_row(text, block) for block in opens(text) if block in rows]
    return len([end for end in rows if end < row and text[end] == ('end',) and end not in inside])


def ladder_test(text, carets, some):
    """Whether some is a ladder by point 8."""
    if any(sure(text, carets, complaint) for complaint in some):
        return False
    if len({segment(text, carets, row) for row, _ in some}) != 1 or segment(text, carets, some[0][0]) is None:
        return False
    for pole, link in (('use', 'twice'), ('give', 'stop')):
        poles = [row for row, word in some if word == pole]
        links = [row for row, word in some if word == link]
        if len(poles) == 2 and len(poles) + len(links) == len(some):
            names = {text[row][1] for row in poles + links} if pole == 'use' else {0}
            low, high = [layer(text, carets, row) for row in poles]
            levels = [layer(text, carets, row) for row in links]
            return len(names) == 1 and text[poles[0]][-1] != text[poles[1]][-1] and levels == list(range(low, high))
    return False


def parts(some):
    """All parts of a set of complaints, the small ones first."""
    return [part for many in range(len(some) + 1) for part in combinations(some, many)]


def ladders(text, carets, some):
    """All ladders that are in some, ascending."""
    return sorted(part for part in parts(some) if ladder_test(text, carets, part))


def goes(text, carets, some, known):
    """Whether some can go, by (S2); known are all ladders that are in it, and perhaps others."""
    return not any(sure(text, carets, one) for one in some) and not any(set(part) <= set(some) for part in known)
