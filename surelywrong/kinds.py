"""Of which kind any value is."""

LETTERS = "abcdefghijklmnopqrstuvwxyz"
LONGEST_NAME = 8
COMPLAINT_WORDS = ("after", "end", "falls", "give", "open", "stop", "twice", "unused", "use")


def is_integer(thing):
    """Whether any value is an int, and no bool."""
    return isinstance(thing, int) and not isinstance(thing, bool)


def is_number(thing):
    """Whether any value is an integer that is at least 0."""
    return is_integer(thing) and thing >= 0


def is_name(thing):
    """Whether any value is a string of one to eight lowercase letters."""
    # Letters are compared one by one: islower() takes letters of other alphabets, too.
    return (
        isinstance(thing, str)
        and 1 <= len(thing) <= LONGEST_NAME
        and all([letter in LETTERS for letter in thing])
    )


def is_kind(thing):
    """Whether any value is a name or the empty string."""
    return is_name(thing) or is_nothing(thing)


def is_nothing(thing):
    """Whether any value is the empty string."""
    return isinstance(thing, str) and len(thing) == 0


def is_one_of(thing, words):
    """Whether any value is one of these strings."""
    return isinstance(thing, str) and thing in words


def is_pair(thing):
    """Whether any value is a tuple of two values."""
    return isinstance(thing, tuple) and len(thing) == 2


def is_triple(thing):
    """Whether any value is a tuple of three values."""
    return isinstance(thing, tuple) and len(thing) == 3


def is_sort(thing):
    """Whether any value says what a block can be."""
    if is_pair(thing):
        return is_one_of(thing[0], ("fun",)) and is_kind(thing[1])
    return is_one_of(thing, ("if", "loop"))


def is_row(thing):
    """Whether any value is a row of a text."""
    if not isinstance(thing, tuple) or len(thing) == 0:
        return False
    word = thing[0]
    if is_one_of(word, ("end", "stop")):
        return len(thing) == 1
    if is_one_of(word, ("let", "use")):
        return len(thing) == 3 and is_name(thing[1]) and is_name(thing[2])
    if is_one_of(word, ("open",)):
        return len(thing) == 2 and is_sort(thing[1])
    return is_one_of(word, ("give",)) and len(thing) == 2 and is_kind(thing[1])


def is_text(thing):
    """Whether any value is a tuple of rows."""
    return isinstance(thing, tuple) and all([is_row(row) for row in thing])


def is_ascending(things):
    """Whether each of these numbers, or of these complaints, is greater than the one before."""
    return all([low < high for low, high in zip(things, things[1:])])


def is_gaps(thing):
    """Whether any value is a set of numbers."""
    return isinstance(thing, tuple) and all([is_number(gap) for gap in thing]) and is_ascending(thing)


def is_complaint(thing):
    """Whether any value is a pair of a number and one of the nine words."""
    return is_pair(thing) and is_number(thing[0]) and is_one_of(thing[1], COMPLAINT_WORDS)


def is_complaints(thing):
    """Whether any value is a tuple of pairs of a number and one of the nine words, ascending."""
    return isinstance(thing, tuple) and all([is_complaint(pair) for pair in thing]) and is_ascending(thing)


def is_way_step(thing):
    """Whether any value is a pair of a number and a text that is not empty."""
    return is_pair(thing) and is_number(thing[0]) and is_text(thing[1]) and len(thing[1]) > 0


def is_way(thing):
    """Whether any value is a way at some gaps."""
    if not isinstance(thing, tuple) or not all([is_way_step(step) for step in thing]):
        return False
    return is_ascending([gap for gap, _ in thing])
