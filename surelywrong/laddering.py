"""Ladders: sets of complaints that can go one by one, but not all at once."""

from surelywrong.layering import places_of
from surelywrong.sureness import held_among, some_stretches

# Only complaints of these words can be in ladders.
NAME_WORDS = ("use", "twice")
FUNCTION_WORDS = ("give", "stop")


def is_ladder(text, carets, some):
    """Whether a set of complaints is a ladder at the carets."""
    # Nothing less than a ladder has a ladder in it.
    return a_ladder(text, carets, some) == some and len(some) > 0


def a_ladder(text, carets, some):
    """A ladder all of which is in a set of complaints, () if there is none."""
    stretches = some_stretches(text, carets, some)
    return ladder_among(text, carets, held_among(stretches, carets, some))


def ladders_of(text, carets, some):
    """All ladders that are in a set of complaints, one by one, ascending."""
    stretches = some_stretches(text, carets, some)
    climbs = climbs_of(text, carets, held_among(stretches, carets, some))
    for ladder in sorted([ladder for climb in climbs for ladder in ladders_in(climb)]):
        yield ladder


def how_many_ladders(text, carets, some):
    """The number of the ladders that are in a set of complaints."""
    stretches = some_stretches(text, carets, some)
    return sum([number_in(climb) for climb in climbs_of(text, carets, held_among(stretches, carets, some))])


def ladder_among(text, carets, held):
    """A ladder all of which is in a set of complaints that are not sure, () if there is none."""
    climbs = climbs_of(text, carets, held)
    return tuple(sorted([links[0] for links in climbs[0]])) if climbs else ()


def climbs_of(text, carets, held):
    """For each two complaints that links tie: each one as a list, and the links of each layer that they need.

    A ladder has one of each of these lists.
    """
    climbs = []
    for track in tracks_of(text, carets, held).values():
        links = links_of(track)
        poles = [step for step in track if step[1] is not None]
        for k, (low, kind, pole) in enumerate(poles):
            for high, other, upper in poles[k + 1:]:
                tied = all([layer in links for layer in range(low, high)])
                if kind != other and tied:
                    climbs.append([[pole], [upper], *[links[layer] for layer in range(low, high)]])
    return climbs


def tracks_of(text, carets, held):
    """What can hinder one another: for each segment and subject the steps, ascending by their complaints.

    A subject is ("name", x) or ("fun",), a step its layer, its kind, or None for a link, and its complaint.
    """
    places = places_of(text, carets)
    tracks = {}
    for row, word in held:
        if word in NAME_WORDS or word in FUNCTION_WORDS:
            caret, layer = places[row]
            subject = ("name", text[row][1]) if word in NAME_WORDS else ("fun",)
            kind = text[row][-1] if word in ("use", "give") else None
            tracks[(caret, subject)] = [*tracks.get((caret, subject), []), (layer, kind, (row, word))]
    return tracks


def links_of(track):
    """The links of each layer that has any: what ties it to the next one."""
    links = {}
    for layer, kind, complaint in track:
        if kind is None:
            links[layer] = [*links.get(layer, []), complaint]
    return links


def ladders_in(climb):
    """All ladders that have one complaint of each list."""
    ladders = [()]
    for links in climb:
        ladders = [(*ladder, link) for ladder in ladders for link in links]
    return [tuple(sorted(ladder)) for ladder in ladders]


def number_in(climb):
    """How many ladders have one complaint of each list."""
    number = 1
    for links in climb:
        number = number * len(links)
    return number
