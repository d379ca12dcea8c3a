"""Texts that change."""

from surelywrong.errors import NotUsable
from surelywrong.kinds import is_row
from surelywrong.rowchanges import put_in, with_row, without_row, wrapped
from surelywrong.texts import Text
from surelywrong.usable import check_gap, check_row, check_rows


class Draft:
    """A text that changes."""

    def __init__(self, rows=()):
        check_rows("rows", rows)
        # A tuple, so that what frozen() hands out stays as it was.
        self._rows = rows

    def __getitem__(self, at):
        check_row(self._rows, at)
        return self._rows[at]

    def __setitem__(self, at, worth):
        self._rows = with_row(self._rows, at, worth)

    def __iter__(self):
        raise TypeError("a Draft is not iterated over; the rows of its Text are")

    def __len__(self):
        return len(self._rows)

    def __eq__(self, other):
        return isinstance(other, Draft) and self._rows == other._rows

    def __iadd__(self, other):
        self.insert_row(len(self._rows), other)
        return self

    def insert_row(self, gap, row):
        """Put a row in at the gap."""
        check_gap(self._rows, gap)
        if not is_row(row):
            raise NotUsable("new", -1)
        self._rows = put_in(self._rows, gap, (row,))

    def take_row(self, row):
        """Take out the row with this number, and return it."""
        check_row(self._rows, row)
        taken = self._rows[row]
        self._rows = without_row(self._rows, row)
        return taken

    def wrap(self, first, last, sort):
        """Put a block of this sort around the rows from first to last."""
        self._rows = wrapped(self._rows, first, last, sort)

    def frozen(self):
        """The Text of the rows as they are now."""
        return Text(self._rows)
