"""Rows, texts, sets of numbers and complaints, read from strings."""

from surelywrong.errors import InvalidText, NotUsable
from surelywrong.kinds import COMPLAINT_WORDS, is_name, is_one_of

DIGITS = "0123456789"
MOST_DIGITS = 60


def row_read(line):
    """The row that a string writes."""
    check_string("line", line)
    return row_of_words(0, line.split(" "))


def text_read(lines):
    """The text that a string writes, one row in each line."""
    check_string("lines", lines)
    if lines == "":
        return ()
    return tuple([row_of_words(k, line.split(" ")) for k, line in enumerate(lines.split("\n"))])


def gaps_read(words):
    """The set of numbers that a string writes."""
    check_string("words", words)
    parts = words.split(" ")
    field = fault_of_gaps(parts)
    if field is not None:
        raise InvalidText(0, field)
    return gaps_of_words(parts)


def complaint_read(word):
    """The pair of a number and a word that a string writes."""
    check_string("word", word)
    first, *more = word.split(" ")
    row, _, complaint = first.partition(":")
    if not is_numeral(row) or not is_one_of(complaint, COMPLAINT_WORDS):
        raise InvalidText(0, 0)
    check_no_more(more)
    return (int(row), complaint)


def check_string(word, thing):
    """Raise NotUsable, with this word, if a value is no string."""
    if not isinstance(thing, str):
        raise NotUsable(word, -1)


def check_no_more(more):
    """Raise InvalidText if there are words behind the only one that can stand."""
    if more:
        raise InvalidText(0, 1)


def is_numeral(word):
    """Whether a word is a number in decimal, with no leading zero."""
    # Digits are compared one by one: isdigit() takes those of other scripts, too.
    if not 1 <= len(word) <= MOST_DIGITS or not all([digit in DIGITS for digit in word]):
        return False
    return word == "0" or word[0] != "0"


def fault_of_gaps(words, most=None):
    """The index of the first word that no set of numbers has there; None for a set.

    With most, no number is greater than that.
    """
    if words[0] == "-":
        return 1 if len(words) > 1 else None
    least = 0
    for field, word in enumerate(words):
        if not is_numeral(word) or int(word) < least or (most is not None and int(word) > most):
            return field
        least = int(word) + 1
    return None


def gaps_of_words(words):
    """The set of numbers that has these words."""
    return () if words[0] == "-" else tuple([int(word) for word in words])


def row_of_words(line, words):
    """The row with these words; line is the number that InvalidText tells."""
    field = fault_of_words(words)
    if field is not None:
        raise InvalidText(line, field)
    # A - stands for a kind alone: no other word of a row can be one.
    parts = ["" if word == "-" else word for word in words]
    if len(parts) == 3 and parts[0] == "open":
        return ("open", ("fun", parts[2]))
    return tuple(parts)


def fault_of_words(words):
    """The index of the first word that no row has there, or their number if one is missing; None for a row."""
    for field in range(len(words)):
        if not can_stand(words[:field], words[field]):
            return field
    return len(words) if len(words) < words_needed(words) else None


def can_stand(before, word):
    """Whether a row that begins with the words before can have this word next."""
    if not before:
        return word in ("open", "end", "let", "use", "stop", "give")
    if len(before) >= words_needed(before):
        return False
    if before[0] == "open" and len(before) == 1:
        return word in ("if", "loop", "fun")
    # What a let or a use has is never -; what is left is the kind of a fun or a give.
    return is_name(word) or (word == "-" and before[0] in ("open", "give"))


def words_needed(words):
    """How many words a row has that begins with these, of which there is one at least."""
    if words[0] in ("let", "use") or words[:2] == ["open", "fun"]:
        return 3
    return 2 if words[0] in ("open", "give") else 1
