"""Writings: texts that grow at carets, event by event."""

from surelywrong.errors import InvalidEvent, NothingToUndo, NotUsable
from surelywrong.eventkinds import is_event
from surelywrong.kinds import is_complaint
from surelywrong.moments import by_births, first_moment, is_possible, next_moment, sure_at
from surelywrong.sureness import held_ones
from surelywrong.usable import check_carets, check_rows


class Writing:
    """A text and carets at which rows are put in, or which are closed."""

    MOST = 40

    def __init__(self, rows=(), carets=()):
        check_rows("rows", rows)
        check_carets(rows, carets)
        self._log = (("writing", rows, carets),)
        self._moments = (first_moment(rows, carets),)
        self._is_shut = False
        self._calls = 0

    @property
    def rows(self):
        """The text now."""
        return self._moments[-1][0]

    @property
    def carets(self):
        """The carets now."""
        return self._moments[-1][1]

    @property
    def sure(self):
        """The set of the complaints that are sure now."""
        return sure_at(self._moments[-1])

    @property
    def held(self):
        """The set of the complaints of the text now that are not sure."""
        return held_ones(self.rows, self.carets)

    @property
    def births(self):
        """The births of the rows of the text now."""
        return self._moments[-1][2]

    @property
    def moments(self):
        """The pairs of the text and the carets of all moments."""
        return tuple([(rows, carets) for rows, carets, _ in self._moments])

    @property
    def is_shut(self):
        """Whether the writing is shut."""
        return self._is_shut

    def put(self, gap, row):
        """Put a row in at a caret; return what is sure since."""
        return self._applied(("put", gap, row))

    def close_caret(self, gap):
        """Close a caret; return what is sure since."""
        return self._applied(("close", gap))

    def go(self, event):
        """Apply an event; return what is sure since."""
        return self._applied(event)

    def __call__(self, event):
        return self._applied(event)

    def barred(self, event):
        """The reason why any value would be refused as an event, None if it would not."""
        return self._reason(event, self._log, self._moments[-1])

    def tried(self, *events):
        """The text, the carets and what is sure, as it would be behind these events."""
        _, moments = self._behind(events)
        rows, carets, _ = moments[-1]
        return (rows, carets, sure_at(moments[-1]))

    def undo(self):
        """Take back the last event, and return it."""
        self._count()
        if self._is_shut:
            raise InvalidEvent(("undo",), "closed")
        if len(self._moments) == 1:
            raise NothingToUndo(0)
        event = self._log[-1]
        self._log = self._log[:-1]
        self._moments = self._moments[:-1]
        return event

    def do_all(self, *events, keep=False):
        """Apply events in order, and return how many they are.

        If one is refused, those ahead of it remain with keep, and none without.
        """
        self._count()
        if not isinstance(keep, bool):
            raise NotUsable("keep", -1)
        if keep:
            self._follow_each(events)
        else:
            self.follow(events)
        return len(events)

    def tally(self):
        """How many operations were started, and how many finished."""
        # None of them calls anything that could ask meanwhile: each one that was started is finished.
        return (self._calls, self._calls)

    def log(self):
        """The beginning, and the events that were not undone."""
        return self._log

    def shut(self):
        """Refuse events and undo from now on."""
        self._count()
        self._is_shut = True

    def finish(self, *events):
        """Apply events in order, shut the writing even if one is refused, and return the log."""
        self._count()
        with self:
            self._follow_each(events)
        return self._log

    def follow(self, events):
        """Apply all events, or none if one is refused; for other modules, as this is no operation that counts."""
        self._log, self._moments = self._behind(events)

    def __enter__(self):
        return self

    def __exit__(self, kind, value, trace):
        self._is_shut = True

    def __contains__(self, thing):
        # By its kind first: True is not 1.
        return is_complaint(thing) and thing in self.sure

    def __len__(self):
        return len(self._log[1:])

    def __eq__(self, other):
        return isinstance(other, Writing) and self._log == other._log and self._is_shut == other._is_shut

    def _count(self):
        self._calls = self._calls + 1

    def _applied(self, event):
        """Apply an event; return what is sure now and, told by births, was not at the moment before."""
        self._count()
        known = by_births(self._moments[-1], self.sure)
        self.follow((event,))
        births = self.births
        return tuple([(row, word) for row, word in self.sure if (births[row], word) not in known])

    def _follow_each(self, events):
        """Apply events one by one, up to the first one that is refused."""
        for event in events:
            self.follow((event,))

    def _behind(self, events):
        """The log and the moments behind more events; InvalidEvent for the first one that is refused."""
        log = self._log
        moments = self._moments
        for event in events:
            reason = self._reason(event, log, moments[-1])
            if reason is not None:
                raise InvalidEvent(event, reason)
            log = (*log, event)
            moments = (*moments, next_moment(moments[-1], event))
        return (log, moments)

    def _reason(self, event, log, moment):
        """Why an event would be refused behind a log, at its last moment; None if it would not."""
        if not is_event(event):
            return "shape"
        if self._is_shut:
            return "closed"
        if len(log) > self.MOST:
            return "full"
        return None if is_possible(moment, event) else "caret"
