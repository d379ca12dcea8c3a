"""Checkers: called with a log, they answer which complaints they show at its last moment.

Each class has both ways of calling in its own body, as the interface asks of what it lists.
"""

from surelywrong.complaining import complaints_of
from surelywrong.errors import NotUsable
from surelywrong.kinds import COMPLAINT_WORDS, is_one_of
from surelywrong.moments import moments_of, sure_at


class Checker:
    """A checker that shows nothing."""

    def __call__(self, log):
        return self.shown(log)

    def shown(self, log):
        """No complaint."""
        moments_of(log)
        return ()


class Sure(Checker):
    """A checker that shows what is sure."""

    def __call__(self, log):
        return self.shown(log)

    def shown(self, log):
        """The complaints that are sure."""
        return sure_at(moments_of(log)[-1])


class Hasty(Checker):
    """A checker that shows all there is."""

    def __call__(self, log):
        return self.shown(log)

    def shown(self, log):
        """All complaints of the text."""
        return complaints_of(moments_of(log)[-1][0])


class Certain(Checker):
    """A checker that shows what is sure, of some words alone."""

    def __init__(self, *words):
        for k, word in enumerate(words):
            if not is_one_of(word, COMPLAINT_WORDS):
                raise NotUsable("words", k)
        self._words = words

    def __call__(self, log):
        return self.shown(log)

    def shown(self, log):
        """The complaints that are sure and have one of the words."""
        return tuple([(row, word) for row, word in sure_at(moments_of(log)[-1]) if word in self._words])


class Counting(Checker):
    """A checker that counts its calls, and shows what the next class shows that an object is derived from."""

    def __init__(self):
        self._asked = 0

    @property
    def asked(self):
        """How often the checker was called."""
        return self._asked

    def __call__(self, log):
        return self.shown(log)

    def shown(self, log):
        """What the next class shows; each call counts, also one with an error."""
        self._asked = self._asked + 1
        return super().shown(log)


class CountingSure(Counting, Sure):
    """A checker that counts its calls, and shows what is sure."""

    def __call__(self, log):
        return self.shown(log)

    def shown(self, log):
        """The complaints that are sure; each call counts, also one with an error."""
        return super().shown(log)
