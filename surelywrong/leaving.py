"""The fewest complaints of a set that stay, and greatest sets that can go."""

from surelywrong.errors import NotUsable
from surelywrong.going import can_go_in
from surelywrong.laddering import links_of, tracks_of
from surelywrong.layering import places_of
from surelywrong.sureness import held_among, some_stretches
from surelywrong.usable import is_part_of


def fewest_left(text, carets, some):
    """The least number of complaints of a set that stay."""
    most = most_gone(text, carets, some)
    return len(some) - len(most)


def most_gone(text, carets, some):
    """A greatest set of complaints of a set that can go."""
    stretches = some_stretches(text, carets, some)
    return most_gone_in(text, carets, held_among(stretches, carets, some))


def is_full(text, carets, some, part):
    """Whether part is a set of complaints of some that can go, and with no other one of them can."""
    stretches = some_stretches(text, carets, some)
    if not is_part_that_goes(text, stretches, carets, some, part):
        return False
    return filled_in(text, stretches, carets, some, part) == part


def filled_up(text, carets, some, part):
    """What part becomes if each complaint of some is added to it, one by one, that can then go with it."""
    stretches = some_stretches(text, carets, some)
    if not is_part_that_goes(text, stretches, carets, some, part):
        raise NotUsable("part", -1)
    return filled_in(text, stretches, carets, some, part)


def is_part_that_goes(text, stretches, carets, some, part):
    """Whether any value is a set of complaints of some that can go."""
    return is_part_of(some, part) and can_go_in(text, stretches, carets, part)


def filled_in(text, stretches, carets, some, part):
    """What filled_up returns, for what is known to be usable."""
    filled = part
    for complaint in some:
        more = tuple(sorted(set([*filled, complaint])))
        if can_go_in(text, stretches, carets, more):
            filled = more
    return filled


def most_gone_in(text, carets, held):
    """A greatest set that can go, of complaints that are not sure."""
    places = places_of(text, carets)
    left = {}
    for place, track in tracks_of(text, carets, held).items():
        if kinds_of(track):
            for complaint in left_of(track, layers_behind(places, place[0])):
                left[complaint] = True
    return tuple([complaint for complaint in held if complaint not in left])


def layers_behind(places, caret):
    """The number of the layers of the segment that begins at a caret."""
    return 1 + max([layer for at, layer in [place for place in places if place is not None] if at == caret])


def kinds_of(track):
    """The kinds between which a track can choose in each layer, ascending."""
    return tuple(sorted(set([kind for _, kind, _ in track if kind is not None])))


def numbers_of(track, layers):
    """For each layer the pairs of a kind and the least number of complaints that stay up to there if it is chosen."""
    numbers = []
    before = ()
    for layer in range(layers):
        before = next_numbers(track, layer, before)
        numbers.append(before)
    return tuple(numbers)


def next_numbers(track, layer, before):
    """The pairs of a layer, by those of the layer before; there are none before the first one."""
    change = len(links_of(track).get(layer - 1, []))
    pairs = []
    for kind in kinds_of(track):
        unlike = len([other for at, other, _ in track if at == layer and other not in (None, kind)])
        reached = [number + (0 if other == kind else change) for other, number in before]
        pairs.append((kind, unlike + min(reached, default=0)))
    return tuple(pairs)


def left_of(track, layers):
    """As few complaints of a track as possible, without which it can go."""
    chosen = chosen_kinds(track, layers)
    left = []
    for layer, kind, complaint in track:
        # A link ties the kind of its layer to the one behind.
        tied = chosen[min(layer + 1, layers - 1)] if kind is None else kind
        if tied != chosen[layer]:
            left.append(complaint)
    return left


def chosen_kinds(track, layers):
    """A kind for each layer, such that as few complaints of the track as possible stay."""
    links = links_of(track)
    chosen = []
    # Backwards: the numbers tell what stays up to a layer.
    for layer, pairs in list(enumerate(numbers_of(track, layers)))[::-1]:
        change = len(links.get(layer, []))
        reached = [(number + (0 if kind in chosen[:1] else change), kind) for kind, number in pairs]
        chosen = [min(reached)[1], *chosen]
    return chosen
