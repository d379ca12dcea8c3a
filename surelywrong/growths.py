"""Growths: a text together with a way, and ways that are joined."""

from surelywrong.growing import gone_in, grown_in, new_in, old_rows
from surelywrong.kinds import is_complaint
from surelywrong.rowtexts import row_line
from surelywrong.usable import check_text, check_way


class Growth:
    """A text and a way at its gaps; it never changes."""

    def __init__(self, text, way):
        check_text(text)
        check_way(text, way)
        self._text = text
        self._way = way
        self._rows = grown_in(text, way)
        self._olds = old_rows(text, way)

    @property
    def rows(self):
        """The grown text."""
        return self._rows

    @property
    def way(self):
        """The way by which the text grows."""
        return self._way

    @property
    def gone(self):
        """The set of the complaints of the text that are gone."""
        return gone_in(self._text, self._way)

    @property
    def fresh(self):
        """The set of the complaints of the grown text that the text does not have."""
        return new_in(self._text, self._way)

    def __add__(self, other):
        check_way(self._rows, other)
        return Growth(self._text, joined_way(self._text, self._way, other))

    def __contains__(self, thing):
        # By its kind first: True is not 1.
        return is_complaint(thing) and thing in self.gone

    def __len__(self):
        return len([old for old in self._olds if old is None])

    def __eq__(self, other):
        return isinstance(other, Growth) and self._text == other._text and self._way == other._way

    def __str__(self):
        lines = [f"{'+' if old is None else ' '} {row_line(row)}" for row, old in zip(self._rows, self._olds)]
        return str("\n".join(lines))


def joined_way(text, way, more):
    """The way that makes of the text what more makes of the text that is grown by the way."""
    rows = grown_in(text, way)
    olds = old_rows(text, way)
    put = {}
    gap = 0
    for row, at in zip(grown_in(rows, more), old_rows(rows, more)):
        if at is not None and olds[at] is not None:
            gap = gap + 1
        else:
            put[gap] = (*put.get(gap, ()), row)
    return tuple(list(put.items()))
