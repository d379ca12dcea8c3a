"""Which complaints are sure at carets, and ways that take one away."""

from surelywrong.blocks import chains_of
from surelywrong.layering import places_of
from surelywrong.stretching import HELPED_BEHIND, stretches_in
from surelywrong.usable import check_carets, check_complaint, check_some, check_text


def is_sure(text, carets, complaint):
    """Whether no way at the carets takes a complaint away."""
    stretches = checked_stretches(text, carets)
    check_complaint(stretches, complaint)
    return is_out_of_reach(stretches[complaint], carets)


def sure_ones(text, carets):
    """The set of all complaints of a text that are sure at the carets."""
    stretches = checked_stretches(text, carets)
    return sure_among(stretches, carets, stretches)


def held_ones(text, carets):
    """The set of all complaints of a text that are not sure at the carets."""
    stretches = checked_stretches(text, carets)
    return held_among(stretches, carets, stretches)


def taking_away(text, carets, complaint):
    """A way at the carets that takes a complaint away, None if it is sure."""
    stretches = checked_stretches(text, carets)
    check_complaint(stretches, complaint)
    first, last = stretches[complaint]
    inside = [caret for caret in carets if first <= caret <= last]
    if not inside:
        return None
    if complaint[1] in HELPED_BEHIND:
        return ((inside[0], rows_behind(text, complaint, inside[0])),)
    return ((inside[0], rows_ahead(text, complaint, inside[0])),)


def checked_stretches(text, carets):
    """The stretches of all complaints of a text; NotUsable if it is none, or the carets are no gaps of it."""
    check_text(text)
    check_carets(text, carets)
    return stretches_in(text)


def some_stretches(text, carets, some):
    """As checked_stretches; NotUsable also if some is no set of complaints of the text."""
    stretches = checked_stretches(text, carets)
    check_some(stretches, some)
    return stretches


def is_out_of_reach(stretch, carets):
    """Whether no caret is in a stretch."""
    first, last = stretch
    return not any([first <= caret <= last for caret in carets])


def sure_among(stretches, carets, some):
    """Those of some complaints that are sure."""
    return tuple([complaint for complaint in some if is_out_of_reach(stretches[complaint], carets)])


def held_among(stretches, carets, some):
    """Those of some complaints that are not sure."""
    return tuple([complaint for complaint in some if not is_out_of_reach(stretches[complaint], carets)])


def rows_behind(text, complaint, caret):
    """Rows at a caret in the stretch that end what was opened behind the row, and then help it."""
    row, word = complaint
    inner = [block for block in chains_of(text)[caret][1:] if block > row]
    return (*[("end",) for _ in inner], helper_behind(text[row], word))


def helper_behind(words, word):
    """What helps a row if it comes behind, at the level of the row or of the block that it opens."""
    if word == "unused":
        return ("use", words[1], words[2])
    if word == "falls":
        return ("give", words[1][1])
    return ("end",)


def rows_ahead(text, complaint, caret):
    """Rows at a caret in the stretch that help a row by what they open or let."""
    row, word = complaint
    _, layer = places_of(text, (caret,))[row]
    # The end rows between close these blocks, and not the one that the first row opens.
    return (helper_ahead(text[row], word), *[("open", "if") for _ in range(layer)])


def helper_ahead(words, word):
    """What helps a row if it comes ahead, at the level of the row or around it."""
    if word == "use":
        return ("let", words[1], words[2])
    if word == "stop":
        return ("open", "loop")
    if word == "give":
        return ("open", ("fun", words[1]))
    return ("open", "if")
