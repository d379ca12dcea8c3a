"""What rows find: lets, functions, loops, and how far a let reigns."""

from surelywrong.blocks import chains_of
from surelywrong.usable import check_row, check_row_like, check_text


def let_found(text, row):
    """The let that a use finds, None if it finds none."""
    check_text(text)
    check_row_like(text, row, "use")
    return lets_found(text, chains_of(text))[row]


def uses_of(text, row):
    """The set of the uses that find a let."""
    check_text(text)
    check_row_like(text, row, "let")
    found = lets_found(text, chains_of(text))
    return tuple([use for use in found if found[use] == row])


def function_of(text, row):
    """The open row of the function of a row, None if it has none."""
    check_text(text)
    check_row(text, row)
    return function_in(text, chains_of(text)[row])


def loop_of(text, row):
    """The open row of the innermost loop around a row and within its function, None if there is none."""
    check_text(text)
    check_row(text, row)
    return loop_in(text, chains_of(text)[row])


def reign_of(text, row):
    """The first and the last gap of the reign of a let."""
    check_text(text)
    check_row_like(text, row, "let")
    return reign_in(text, chains_of(text), row)


def lets_found(text, chains):
    """The let that each use finds, None if it finds none, the uses ascending."""
    latest = {}
    found = {}
    for row, words in enumerate(text):
        if words[0] == "let":
            latest[(chains[row][-1], words[1])] = row
        elif words[0] == "use":
            lets = [latest.get((block, words[1])) for block in chains[row]]
            seen = [let for let in lets if let is not None]
            found[row] = seen[-1] if seen else None
    return found


def reign_in(text, chains, row):
    """The first and the last gap of the reign of a row that is a let."""
    for later in range(row + 1, len(text)):
        # An end row is at the level of what it closes.
        ends = text[later][0] == "end" or text[later][:2] == text[row][:2]
        if ends and chains[later][-1] == chains[row][-1]:
            return (row + 1, later)
    return (row + 1, len(text))


def function_in(text, chain):
    """The open row of the innermost function of a chain, None if it has none."""
    functions = [block for block in chain[1:] if is_function(text, block)]
    return functions[-1] if functions else None


def loop_in(text, chain):
    """The open row of the innermost loop of a chain that is within its innermost function."""
    for block in chain[:0:-1]:
        if text[block][1] == "loop":
            return block
        if is_function(text, block):
            return None
    return None


def is_function(text, row):
    """Whether an open row opens a function."""
    return isinstance(text[row][1], tuple)
