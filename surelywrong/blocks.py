"""The blocks and grounds of a text."""

from surelywrong.errors import NotUsable
from surelywrong.kinds import is_integer
from surelywrong.usable import check_gap, check_row, check_row_like, check_text


def chains_of(text):
    """For each gap its chain: its ground, and then the blocks that are open there, the innermost last.

    The chain of a row is the one of the gap ahead of it.
    """
    chain = (-1,)
    chains = [chain]
    for row, words in enumerate(text):
        if words[0] == "open":
            chain = (*chain, row)
        elif words[0] == "end":
            # A chain that is used up was a ground alone: the end row begins the next one.
            chain = chain[:-1] or (row,)
        chains.append(chain)
    return chains


def closers_of(text, chains):
    """The end row of each block and each ground that is closed."""
    return {chains[row][-1]: row for row, words in enumerate(text) if words[0] == "end"}


def closes_ground(text, chains, row):
    """Whether a row is an end row that closes a ground."""
    return text[row][0] == "end" and len(chains[row]) == 1


def check_block(text, chains, block):
    """Raise NotUsable if block tells no block and no ground of the text."""
    told = [row for row in range(len(text)) if text[row][0] == "open" or closes_ground(text, chains, row)]
    if not is_integer(block) or block not in [-1, *told]:
        raise NotUsable("block", block)


def end_of(text, row):
    """The end row that closes the block of an open row, None if none does."""
    check_text(text)
    check_row_like(text, row, "open")
    return closers_of(text, chains_of(text)).get(row)


def open_at(text, gap):
    """The open rows ahead of the gap whose blocks are not closed ahead of it."""
    check_text(text)
    check_gap(text, gap)
    return chains_of(text)[gap][1:]


def block_of(text, row):
    """The block or ground at whose level the row is."""
    check_text(text)
    check_row(text, row)
    return chains_of(text)[row][-1]


def level_of(text, block):
    """The rows at the level of a block or ground."""
    check_text(text)
    chains = chains_of(text)
    check_block(text, chains, block)
    return tuple([row for row in range(len(text)) if chains[row][-1] == block])


def is_ground(text, block):
    """Whether what block tells is a ground."""
    check_text(text)
    check_block(text, chains_of(text), block)
    return block == -1 or text[block][0] == "end"
