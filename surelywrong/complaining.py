"""The complaints of a text."""

from surelywrong.blocks import chains_of, closers_of, closes_ground
from surelywrong.finding import function_in, is_function, lets_found, loop_in
from surelywrong.usable import check_row, check_text


def complaints_of(text):
    """The set of the complaints of a text."""
    check_text(text)
    return complaints_in(text)


def words_at(text, row):
    """The set of the words of the complaints at a row."""
    check_text(text)
    check_row(text, row)
    return tuple([word for at, word in complaints_in(text) if at == row])


def complaints_by(text):
    """The pairs of a row with complaints and the set of their words, one by one."""
    check_text(text)
    words = {}
    for row, word in complaints_in(text):
        words[row] = (*words.get(row, ()), word)
    for row, told in words.items():
        yield (row, told)


def complaints_in(text):
    """The set of the complaints of a tuple that is known to be a text."""
    chains = chains_of(text)
    parts = (
        of_names(text, chains),
        of_levels(text, chains),
        of_leaving(text, chains),
        of_functions(text, chains),
        of_blocks(text, chains),
    )
    return tuple(sorted([complaint for part in parts for complaint in part]))


def of_names(text, chains):
    """The complaints of the words "use" and "unused"."""
    found = lets_found(text, chains)
    wrong = [(use, "use") for use, let in found.items() if let is None or text[let][2] != text[use][2]]
    finders = {let: use for use, let in found.items()}
    lets = [row for row, words in enumerate(text) if words[0] == "let"]
    return [*wrong, *[(let, "unused") for let in lets if let not in finders]]


def of_levels(text, chains):
    """The complaints of the words "twice" and "after", by what stands above at a level."""
    told = []
    lets = {}
    left = {}
    for row, words in enumerate(text):
        block = chains[row][-1]
        if words[0] != "end" and block in left:
            told.append((row, "after"))
        if words[0] == "let":
            if (block, words[1]) in lets:
                told.append((row, "twice"))
            lets[(block, words[1])] = True
        if words[0] in ("stop", "give"):
            left[block] = True
    return told


def of_leaving(text, chains):
    """The complaints of the words "stop" and "give"."""
    stops = [row for row, words in enumerate(text) if words[0] == "stop"]
    gives = [row for row, words in enumerate(text) if words[0] == "give"]
    return [
        *[(row, "stop") for row in stops if loop_in(text, chains[row]) is None],
        *[(row, "give") for row in gives if not gives_rightly(text, chains, row)],
    ]


def gives_rightly(text, chains, row):
    """Whether a give has a function, of its kind."""
    function = function_in(text, chains[row])
    return function is not None and text[function][1] == ("fun", text[row][1])


def of_functions(text, chains):
    """The complaints of the word "falls"."""
    givers = {chains[row][-1]: True for row, words in enumerate(text) if words[0] == "give"}
    functions = [row for row, words in enumerate(text) if words[0] == "open" and is_function(text, row)]
    return [(row, "falls") for row in functions if text[row][1] != ("fun", "") and row not in givers]


def of_blocks(text, chains):
    """The complaints of the words "open" and "end"."""
    closers = closers_of(text, chains)
    opened = [row for row, words in enumerate(text) if words[0] == "open"]
    return [
        *[(row, "open") for row in opened if row not in closers],
        *[(row, "end") for row in range(len(text)) if closes_ground(text, chains, row)],
    ]
