"""Sets of gaps as objects."""

from surelywrong.errors import NotUsable
from surelywrong.kinds import is_number
from surelywrong.rowreadings import gaps_read
from surelywrong.rowtexts import gaps_words
from surelywrong.usable import check_text


class Gaps:
    """A set of numbers."""

    def __init__(self, *gaps):
        for k, gap in enumerate(gaps):
            if not is_number(gap):
                raise NotUsable("gaps", k)
        self._members = tuple(sorted(set(gaps)))

    @property
    def members(self):
        """The set as a tuple."""
        return self._members

    @classmethod
    def all_of(cls, text):
        """The Gaps of all gaps of a text."""
        check_text(text)
        gaps = list(range(len(text) + 1))
        return cls(*gaps)

    @classmethod
    def read(cls, words):
        """The Gaps that a string writes."""
        gaps = gaps_read(words)
        return cls(*gaps)

    def __or__(self, other):
        both = [*self._members, *members_of(other)]
        return Gaps(*both)

    def __and__(self, other):
        theirs = members_of(other)
        common = [gap for gap in self._members if gap in theirs]
        return Gaps(*common)

    def __sub__(self, other):
        theirs = members_of(other)
        alone = [gap for gap in self._members if gap not in theirs]
        return Gaps(*alone)

    def __xor__(self, other):
        return (self | other) - (self & other)

    def __ior__(self, other):
        joined = self | other
        self._members = joined.members
        return self

    def __iand__(self, other):
        common = self & other
        self._members = common.members
        return self

    def __isub__(self, other):
        alone = self - other
        self._members = alone.members
        return self

    def lies_in(self, other):
        """Whether the other Gaps has all members of this one."""
        theirs = members_of(other)
        return all([gap in theirs for gap in self._members])

    def __contains__(self, thing):
        # By its kind first: True is not 1.
        return is_number(thing) and thing in self._members

    def __len__(self):
        return len(self._members)

    def __bool__(self):
        return bool(self._members)

    def __iter__(self):
        return iter(self._members)

    def __eq__(self, other):
        return isinstance(other, Gaps) and self._members == other._members

    def __str__(self):
        return str(gaps_words(self._members))


def members_of(other):
    """The members of another Gaps; NotUsable for any other value."""
    if not isinstance(other, Gaps):
        raise NotUsable("other", -1)
    return other.members
