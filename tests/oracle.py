"""Blocks, finding and complaints once more, slowly and by the words of points 3 to 5, to compare with."""

from functools import lru_cache


@lru_cache(maxsize=None)
def end_row(text, row):
    """The end row that closes the block of this open row: the first one behind it that is left over."""
    depth = 1
    for later in range(row + 1, len(text)):
        depth += {'open': 1, 'end': -1}.get(text[later][0], 0)
        if depth == 0:
            return later
    return None


def opens(text):
    return [row for row in range(len(text)) if text[row][0] == 'open']


@lru_cache(maxsize=None)
def stray_ends(text):
    """The end rows that close no block, so each of them a ground."""
    closing = [end_row(text, row) for row in opens(text)]
    return [row for row in range(len(text)) if text[row] == ('end',) and row not in closing]


@lru_cache(maxsize=None)
def blocks_around(text, row):
    """The open rows of the blocks that a row stands in, from the outside in."""
    ends = {block: end_row(text, block) for block in opens(text) if block < row}
    return [block for block, end in ends.items() if end is None or row <= end]


@lru_cache(maxsize=None)
def ground(text, row):
    return max([-1, *[end for end in stray_ends(text) if end < row]])


def level(text, row):
    return (blocks_around(text, row) or [ground(text, row)])[-1]


@lru_cache(maxsize=None)
def places(text):
    """The block or ground of each row."""
    return [level(text, row) for row in range(len(text))]


@lru_cache(maxsize=None)
def found_let(text, row):
    at = places(text)
    for block in [*blocks_around(text, row)[::-1], ground(text, row)]:
        lets = [let for let in range(row) if text[let][:2] == ('let', text[row][1]) and at[let] == block]
        if lets:
            return lets[-1]
    return None


@lru_cache(maxsize=None)
def function(text, row):
    around = [block for block in blocks_around(text, row) if text[block][1][0] == 'fun']
    return max(around, default=None)


@lru_cache(maxsize=None)
def loop(text, row):
    inside = function(text, row)
    around = [block for block in blocks_around(text, row) if text[block][1] == 'loop']
    return max([block for block in around if inside is None or block > inside], default=None)


def reign(text, row):
    at = places(text)
    same_level = [later for later in range(row + 1, len(text)) if at[later] == at[row]]
    ends = [later for later in same_level if text[later] == ('end',) or text[later][:2] == text[row][:2]]
    return (row + 1, min([*ends, len(text)]))


def complaint_test(text, row, word):
    """Whether this row has a complaint of this word."""
    kind, at = text[row][0], places(text)
    above = [text[other] for other in range(row) if at[other] == at[row]]
    if word == 'use':
        let = found_let(text, row) if kind == 'use' else None
        return kind == 'use' and (let is None or text[let][2] != text[row][2])
    if word == 'unused':
        uses = [use for use in range(len(text)) if text[use][0] == 'use']
        return kind == 'let' and all(found_let(text, use) != row for use in uses)
    if word == 'twice':
        return kind == 'let' and any(other[:2] == text[row][:2] for other in above)
    if word == 'stop':
        return kind == 'stop' and loop(text, row) is None
    if word == 'give':
        inside = function(text, row)
        return kind == 'give' and (inside is None or text[inside][1] != ('fun', text[row][1]))
    if word == 'after':
        return kind != 'end' and any(other[0] in ('stop', 'give') for other in above)
    if word == 'falls':
        gives = [other for other in range(len(text)) if at[other] == row and text[other][0] == 'give']
        return kind == 'open' and text[row][1][0] == 'fun' and text[row][1][1] != '' and not gives
    if word == 'open':
        return kind == 'open' and end_row(text, row) is None
    return kind == 'end' and row in stray_ends(text)


def complaints(text, words):
    """All complaints of a text, ascending."""
    return tuple((row, word) for row in range(len(text)) for word in words if complaint_test(text, row, word))
