"""Texts as objects."""

from surelywrong.errors import NotUsable
from surelywrong.kinds import is_row
from surelywrong.rowreadings import text_read
from surelywrong.rowtexts import text_lines
from surelywrong.usable import check_row, check_rows


class Text:
    """A text that never changes."""

    def __init__(self, rows=()):
        check_rows("rows", rows)
        self._rows = rows

    @property
    def rows(self):
        """The text as a tuple."""
        return self._rows

    @classmethod
    def read(cls, lines):
        """The Text that a string writes."""
        return cls(text_read(lines))

    @staticmethod
    def of_rows(*rows):
        """The Text of these rows."""
        return Text(rows)

    def __add__(self, other):
        if isinstance(other, Text):
            return Text((*self._rows, *other.rows))
        check_other(other)
        return Text((*self._rows, other))

    def __radd__(self, other):
        check_other(other)
        return Text((other, *self._rows))

    def __getitem__(self, at):
        check_row(self._rows, at)
        return self._rows[at]

    def __iter__(self):
        raise TypeError("a Text is not iterated over; its rows are")

    def __contains__(self, thing):
        # By its kind first: only a row is compared with rows.
        return is_row(thing) and thing in self._rows

    def __len__(self):
        return len(self._rows)

    def __bool__(self):
        return bool(self._rows)

    def __eq__(self, other):
        return isinstance(other, Text) and self._rows == other._rows

    def __str__(self):
        return str(text_lines(self._rows))


def check_other(other):
    """Raise NotUsable if what is added to a Text is no row."""
    if not is_row(other):
        raise NotUsable("other", -1)
