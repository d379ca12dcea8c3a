"""Point 9: (S1) to (S6) over the whole program, by its papers, its writings and its checkers."""

import random

from surelywrong.checkers import Certain, Checker, Sure
from surelywrong.complaining import complaints_of
from surelywrong.errors import TookBack
from surelywrong.going import can_go
from surelywrong.goingchecker import lets_going
from surelywrong.goingpapers import going_paper
from surelywrong.growing import gone_by, grown, moved
from surelywrong.growths import Growth
from surelywrong.guarded import Guarded
from surelywrong.judging import fault_of, no_sooner, shown_along
from surelywrong.laddering import a_ladder
from surelywrong.leaving import fewest_left
from surelywrong.leavingchecker import lets_leaving
from surelywrong.leavingpapers import leaving_paper
from surelywrong.reaches import Reach
from surelywrong.replaying import replayed
from surelywrong.spanchecker import lets_spans
from surelywrong.spanning import fewest_carets
from surelywrong.spanpapers import span_paper
from surelywrong.sureness import held_ones, sure_ones, taking_away
from surelywrong.writings import Writing
from tests import eventoracle
from tests.helper import Case, WORDS, small_cases, some_carets
from tests.test_judging import Wild, beginnings


class Overeager(Checker):
    """Shows what is sure, and from one log on one complaint more, as long as the text has it."""

    def __init__(self, log, complaint):
        births = eventoracle.births_in(eventoracle.moments(log)[-1])
        self.log, self.told = log, (births[complaint[0]], complaint[1])

    def shown(self, log):
        tokens = eventoracle.moments(log)[-1]
        births, rows = eventoracle.births_in(tokens), eventoracle.rows_in(tokens)
        more = [one for one in complaints_of(rows) if (births[one[0]], one[1]) == self.told and log[:len(self.log)] == self.log]
        return tuple(sorted({*Sure()(log), *more}))


def logs(many, seed):
    return eventoracle.some_logs(random.Random(seed), many, 10, 25, seed=seed)


class Sets(Case):
    """(S1), (S2), (S4) and (S5): what is told of sets agrees, and papers confirm it."""

    def test_what_is_told_agrees(self):
        for text, carets, some in small_cases(80, 9, seed=118):
            sure = [one for one in some if one in sure_ones(text, carets)]
            ladder = a_ladder(text, carets, some)
            goes = can_go(text, carets, some)
            self.assertEqual(goes, not sure and ladder == ())
            self.assertEqual(goes, fewest_left(text, carets, some) == 0)
            self.assertEqual(goes, lets_going(text, carets, some, going_paper(text, carets, some)))
            self.assertEqual(goes, Reach(text, carets).can_go(some))
            self.told(fewest_left(text, carets, some), lets_leaving, text, carets, some, leaving_paper(text, carets, some))
            self.told(len(fewest_carets(text, some)), lets_spans, text, some, span_paper(text, some))
            self.told(True, can_go, text, fewest_carets(text, some), some)
            for one in some:
                self.assertEqual(taking_away(text, carets, one) is None, one in sure)


class Checkers(Case):
    """(S3): what is sure can be shown, and nothing else."""

    def test_what_is_sure_is_never_a_fault(self):
        for log in logs(80, 119):
            for checker in (Sure(), Checker(), *[Certain(word) for word in WORDS]):
                self.told(None, fault_of, log, checker)
                self.told(True, no_sooner, log, checker, Sure())
            guard = Guarded(Sure())
            for begun in beginnings(log):
                self.told(Sure()(begun), guard, begun)

    def test_what_is_held_can_be_taken_back(self):
        faults = 0
        chance = random.Random(120)
        for log in logs(60, 121):
            tokens = eventoracle.moments(log)[-1]
            rows, carets = eventoracle.rows_in(tokens), eventoracle.carets_in(tokens)
            held = held_ones(rows, carets)
            for complaint in chance.sample(held, min(4, len(held))):
                longer = log + eventoracle.way_events(taking_away(rows, carets, complaint))
                checker = Overeager(log, complaint)
                self.assertFalse(no_sooner(longer, checker, Sure()))
                found = fault_of(longer, checker)
                self.assertEqual(found[2], 'back')
                self.assertGreaterEqual(found[0], len(log))
                guard = Guarded(checker)
                with self.assertRaises(TookBack):
                    for begun in beginnings(longer):
                        guard(begun)
                faults += 1
        self.assertGreater(faults, 80)

    def test_checkers_without_a_fault_on_all_goings_on_show_no_more(self):
        for k, log in enumerate(logs(40, 122)):
            for checker in (Wild(k, 0), Wild(k, 0.2)):
                for begun, tokens in zip(beginnings(log), eventoracle.moments(log)):
                    rows, carets = eventoracle.rows_in(tokens), eventoracle.carets_in(tokens)
                    for pair in checker(begun)[:3]:
                        if pair not in sure_ones(rows, carets):
                            # It shows more than is sure, so on some writing from here on it is at fault.
                            way = taking_away(rows, carets, pair) if pair in complaints_of(rows) else ()
                            self.assertIsNotNone(fault_of(begun + eventoracle.way_events(way), checker))


class Writings(Case):
    """(S3) and (S6): what is sure stays sure, with more carets more can go."""

    def test_what_is_sure_stays_sure(self):
        for log in logs(80, 123):
            told = shown_along(log, Sure())
            for before, after in zip(told, told[1:]):
                self.assertLessEqual(set(before), set(after))

    def test_what_put_tells_is_all_that_becomes_sure(self):
        for log in logs(40, 124):
            writing = Writing(*log[0][1:])
            births = [(writing.births[row], word) for row, word in writing.sure]
            for event in log[1:]:
                births += [(writing.births[row], word) for row, word in writing(event)]
                self.assertEqual(sorted(births), sorted((writing.births[row], word) for row, word in writing.sure))

    def test_a_way_as_events(self):
        chance = random.Random(125)
        for text, carets, some in small_cases(60, 6, seed=126):
            paper = going_paper(text, carets, some)
            if paper[0] == 'goes':
                way = paper[1]
                writing = Writing(text, carets)
                events = eventoracle.way_events(way)[:40]
                writing.do_all(*events)
                if len(events) < 40:
                    self.assertEqual(writing.rows, grown(text, way))
                    self.assertEqual([row for row, birth in enumerate(writing.births) if birth < len(text)],
                                     [moved(text, way, row) for row in range(len(text))])
                    gone = [(row, word) for row, word in complaints_of(text) if (moved(text, way, row), word) not in complaints_of(writing.rows)]
                    self.assertEqual(gone, list(gone_by(text, way)))
                    self.assertEqual(writing.rows, Growth(text, way).rows)
                self.assertEqual(replayed(writing.log()), writing)
            more = tuple(sorted({*carets, *some_carets(chance, text)}))
            self.assertLessEqual(can_go(text, carets, some), can_go(text, more, some))
