"""Reaches: what can go at carets, as objects."""

from surelywrong.going import can_go_in
from surelywrong.kinds import is_complaint
from surelywrong.rowtexts import gaps_words
from surelywrong.sureness import checked_stretches, held_among, sure_among
from surelywrong.usable import check_carets, check_some, check_text


class Reach:
    """What can go at carets; it never changes."""

    def __init__(self, text, carets):
        self._stretches = checked_stretches(text, carets)
        self._text = text
        self._carets = carets

    @property
    def text(self):
        """The text."""
        return self._text

    @property
    def carets(self):
        """The carets."""
        return self._carets

    @property
    def sure(self):
        """The set of the complaints of the text that are sure at the carets."""
        return sure_among(self._stretches, self._carets, self._stretches)

    @property
    def held(self):
        """The set of the complaints of the text that are not sure at the carets."""
        return held_among(self._stretches, self._carets, self._stretches)

    def can_go(self, some):
        """Whether a set of complaints can go at the carets."""
        check_some(self._stretches, some)
        return can_go_in(self._text, self._stretches, self._carets, some)

    def __or__(self, other):
        check_carets(self._text, other)
        return Reach(self._text, tuple(sorted(set([*self._carets, *other]))))

    def __contains__(self, thing):
        # By its kind first: True is not 1.
        return is_complaint(thing) and thing in self.held

    def __len__(self):
        return len(self.held)

    def __eq__(self, other):
        return isinstance(other, Reach) and self._text == other._text and self._carets == other._carets

    def __str__(self):
        return str(gaps_words(self._carets))


class Widest(Reach):
    """What can go at all gaps."""

    def __init__(self, text):
        check_text(text)
        super().__init__(text, tuple(range(len(text) + 1)))


class CountingReach(Reach):
    """A reach that counts how often it is asked what can go."""

    def __init__(self, text, carets):
        super().__init__(text, carets)
        self._asked = 0

    @property
    def asked(self):
        """How often can_go was called."""
        return self._asked

    def can_go(self, some):
        """Whether a set of complaints can go at the carets; each call counts, also one with an error."""
        self._asked = self._asked + 1
        return super().can_go(some)
