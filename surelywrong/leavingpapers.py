"""Papers that show how many complaints of a set stay."""

from surelywrong.laddering import tracks_of
from surelywrong.layering import places_of
from surelywrong.leaving import kinds_of, layers_behind, most_gone_in, numbers_of
from surelywrong.sureness import held_among, some_stretches


def leaving_paper(text, carets, some):
    """A leaving paper: a greatest set that can go, and the walks that show that none is greater."""
    stretches = some_stretches(text, carets, some)
    held = held_among(stretches, carets, some)
    places = places_of(text, carets)
    walks = []
    for place, track in tracks_of(text, carets, held).items():
        if kinds_of(track):
            caret, subject = place
            walks.append((caret, subject, numbers_of(track, layers_behind(places, caret))))
    return ("left", most_gone_in(text, carets, held), tuple(sorted(walks)))
