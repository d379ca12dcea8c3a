"""Which sets of complaints can go all at once, and ways by which they go."""

from surelywrong.blocks import chains_of
from surelywrong.laddering import ladder_among, links_of, tracks_of
from surelywrong.layering import places_of
from surelywrong.stretching import HELPED_BEHIND
from surelywrong.sureness import helper_behind, some_stretches, sure_among


def can_go(text, carets, some):
    """Whether a set of complaints can go at the carets."""
    stretches = some_stretches(text, carets, some)
    return can_go_in(text, stretches, carets, some)


def going_way(text, carets, some):
    """A way at the carets by which all of a set of complaints is gone, None if there is none."""
    stretches = some_stretches(text, carets, some)
    return way_in(text, carets, some) if can_go_in(text, stretches, carets, some) else None


def can_go_in(text, stretches, carets, some):
    """What can_go returns, for what is known to be usable."""
    return not staying_part(text, stretches, carets, some)


def staying_part(text, stretches, carets, some):
    """One sure complaint of a set, or else a ladder that is in it, () if there is none: it can go then."""
    return sure_among(stretches, carets, some)[:1] or ladder_among(text, carets, some)


def way_in(text, carets, some):
    """A way by which all of a set is gone that is known to be able to go."""
    places = places_of(text, carets)
    tracks = tracks_of(text, carets, some)
    layers = [(*places[row], word) for row, word in some if word in ("twice", "stop", "after", "end")]
    way = []
    before = 0
    for caret in carets:
        rows = (*closing_rows(text, before, caret, some), *opening_rows(tracks, caret, layers))
        if rows:
            way.append((caret, rows))
        before = caret
    return tuple(way)


def closing_rows(text, before, caret, some):
    """Rows that help, at a caret, what some rows since the caret before need behind them.

    All blocks that these rows opened are closed, so that each row is helped at its own level.
    """
    needing = [(row, word) for row, word in some if before <= row < caret and word in HELPED_BEHIND]
    if not needing:
        return ()
    chains = chains_of(text)
    inner = [block for block in chains[caret][1:] if block >= before]
    outer = [block for block in chains[caret] if block not in inner][-1]
    rows = []
    for block in inner[::-1]:
        rows = [*rows, *helpers_at(text, chains, needing, block), ("end",)]
    return (*rows, *helpers_at(text, chains, needing, outer))


def helpers_at(text, chains, needing, block):
    """What helps complaints at the level of a block."""
    unused = [row for row, word in needing if word == "unused" and chains[row][-1] == block]
    falls = [row for row, word in needing if word == "falls" and row == block]
    return [
        *[helper_behind(text[row], "unused") for row in unused],
        *[helper_behind(text[row], "falls") for row in falls],
    ]


def opening_rows(tracks, caret, layers):
    """Rows that help, at a caret, what rows of its segment need ahead of them.

    A block is opened for each layer that needs something; its end row closes it. The first layer is the innermost one.
    """
    sorts = sorts_at(tracks, caret, layers)
    lets = lets_at(tracks, caret)
    rows = []
    for layer in range(max([-1, *sorts, *lets]), -1, -1):
        rows = [*rows, ("open", sorts.get(layer, "if")), *lets.get(layer, [])]
    return rows


def sorts_at(tracks, caret, layers):
    """The sorts that the blocks of some layers behind a caret are to have."""
    sorts = {}
    for at, layer, word in layers:
        if at == caret:
            sorts[layer] = "loop" if word == "stop" else sorts.get(layer, "if")
    for layer, kind in settled(tracks.get((caret, ("fun",)), [])).items():
        sorts[layer] = ("fun", kind)
    return sorts


def lets_at(tracks, caret):
    """The lets that some layers behind a caret are to have."""
    lets = {}
    for place, track in tracks.items():
        at, subject = place
        if at == caret and subject[0] == "name":
            for layer, kind in settled(track).items():
                lets[layer] = [*lets.get(layer, []), ("let", subject[1], kind)]
    return lets


def settled(track):
    """The kinds that are settled in layers: each in the first layer, from its own on, that no link ties to the next."""
    links = links_of(track)
    return {free_layer(links, layer): kind for layer, kind, _ in track if kind is not None}


def free_layer(links, layer):
    """The first layer from this one on that has no link."""
    while layer in links:
        layer = layer + 1
    return layer
