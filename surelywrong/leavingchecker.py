"""A checker of papers that show how many complaints of a set stay."""

from surelywrong.errors import InvalidPaper
from surelywrong.kinds import is_ascending, is_kind, is_name, is_number, is_one_of, is_pair, is_triple
from surelywrong.laddering import tracks_of
from surelywrong.layering import places_of
from surelywrong.leaving import is_part_that_goes, kinds_of, layers_behind, next_numbers
from surelywrong.sureness import held_among, some_stretches, sure_among


def lets_leaving(text, carets, some, thing):
    """The number of the complaints of some that stay, by a right paper."""
    stretches = some_stretches(text, carets, some)
    if not is_leaving_paper(thing):
        raise InvalidPaper("shape", -1)
    _, part, walks = thing
    if not is_part_that_goes(text, stretches, carets, some, part):
        raise InvalidPaper("part", -1)
    places = places_of(text, carets)
    tracks = tracks_of(text, carets, held_among(stretches, carets, some))
    before = ()
    least = len(sure_among(stretches, carets, some))
    for w, (caret, subject, layers) in enumerate(walks):
        if not is_walk_at(tracks, caret, subject) or not is_ascending([*before, (caret, subject)]):
            raise InvalidPaper("walk", w)
        track = tracks[(caret, subject)]
        check_layers(track, w, layers, layers_behind(places, caret))
        check_numbers(track, w, layers)
        before = ((caret, subject),)
        least = least + min([number for _, number in layers[-1]])
    if least != len(some) - len(part):
        raise InvalidPaper("sum", -1)
    return least


def is_leaving_paper(thing):
    """Whether any value is a leaving paper by its form."""
    if not is_triple(thing) or not is_one_of(thing[0], ("left",)):
        return False
    _, part, walks = thing
    return isinstance(part, tuple) and isinstance(walks, tuple) and all([is_triple(walk) for walk in walks])


def is_subject(thing):
    """Whether any value is a subject of a walk."""
    if is_pair(thing):
        return is_one_of(thing[0], ("name",)) and is_name(thing[1])
    return isinstance(thing, tuple) and len(thing) == 1 and is_one_of(thing[0], ("fun",))


def is_walk_at(tracks, caret, subject):
    """Whether any two values are a caret and a subject that has a choice in the segment that begins there."""
    if not is_number(caret) or not is_subject(subject):
        return False
    return len(kinds_of(tracks.get((caret, subject), []))) > 0


def check_layers(track, w, layers, many):
    """Raise InvalidPaper if the layers of walk w are not so many, each one with a number for each choice."""
    if not isinstance(layers, tuple) or len(layers) != many:
        raise InvalidPaper("layers", w)
    for pairs in layers:
        if not isinstance(pairs, tuple) or not all([is_choice(pair) for pair in pairs]):
            raise InvalidPaper("layers", w)
        if tuple([kind for kind, _ in pairs]) != kinds_of(track):
            raise InvalidPaper("layers", w)


def is_choice(thing):
    """Whether any value is a pair of a kind and a number."""
    return is_pair(thing) and is_kind(thing[0]) and is_number(thing[1])


def check_numbers(track, w, layers):
    """Raise InvalidPaper if a number of a layer of walk w is greater than what the layer before allows."""
    before = ()
    for layer, pairs in enumerate(layers):
        bounds = next_numbers(track, layer, before)
        if any([told > bound for (_, told), (_, bound) in zip(pairs, bounds)]):
            raise InvalidPaper("number", (w, layer))
        before = pairs
