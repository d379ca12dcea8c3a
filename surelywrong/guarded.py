"""Checkers that are watched for faults."""

from surelywrong.checkers import Checker
from surelywrong.errors import TookBack
from surelywrong.judging import fault_at
from surelywrong.moments import by_births, moments_of


class Guarded(Checker):
    """A checker that shows what another one shows, and raises TookBack where that one is at fault."""

    def __init__(self, checker):
        self._checker = checker
        self._forget()

    def __call__(self, log):
        return self.shown(log)

    def shown(self, log):
        """What the other checker shows."""
        moment = moments_of(log)[-1]
        shown = self._asked_for(log)
        goes_on = log[:len(self._last)] == self._last
        fault = fault_at(moment, self._known if goes_on else (), shown)
        if fault is not None:
            self._forget()
            raise TookBack(len(log) - 1, fault[0])
        self._last = log
        self._known = by_births(moment, shown)
        return shown

    def _asked_for(self, log):
        """What the other checker shows, which can be watched for faults, too."""
        try:
            return self._checker(log)
        except TookBack:
            self._forget()
            raise

    def _forget(self):
        """Forget the last call and what was shown, by births; no log is that short."""
        self._last = ()
        self._known = ()
