"""Runs judged (points 4, 9, 26 and 29)."""

import random
import unittest

from keptends.errors import InvalidPaper, NotUsable
from keptends.runchecker import is_run, lets_run
from tests import oracle
from tests.checks import Case
from tests.oracle import World
from tests.runsamples import FEW, STEPS, beginnings, many_runs
from tests.samples import BIG, BREED, JOINS, KID, LATE, MAIN, ODD, PROGRAM, RUN


def run_fault(program, thing):
    """The word and index that lets_run has to tell, or None."""
    if not isinstance(thing, tuple):
        return ("shape", -1)
    world = World(program)
    for k, step in enumerate(thing):
        if world.fault(step) is not None:
            return (world.fault(step), k)
        world.do(step)
    return None


class RunChecker(Case):
    def assert_told(self, program, thing, fault):
        before = repr((program, thing))
        self.assertIs(is_run(program, thing), fault is None, thing)
        self.assertIs(is_run(thing=thing, program=program), fault is None)
        if fault is None:
            self.assert_same(lets_run(program, thing), len(World(program, thing).processes))
            self.assert_same(lets_run(thing=thing, program=program), lets_run(program, thing))
        else:
            fields = {"word": fault[0], "at": fault[1]}
            self.assert_error(InvalidPaper, fields, lets_run, program, thing)
            self.assert_error(InvalidPaper, fields, lets_run, thing=thing, program=program)
        self.assertEqual(repr((program, thing)), before)

    def assert_as_told_twice(self, program, thing):
        self.assert_told(program, thing, run_fault(program, thing))

    def test_by_hand(self):
        self.assert_same(lets_run(PROGRAM, RUN), 3)
        self.assert_same(lets_run(PROGRAM, ()), 1)
        for thing, fault in (
                (RUN[:1] + ((0, "read", -1),), ("word", 1)),
                (((1, "start", -1),), ("process", 0)),
                (RUN + ((1, "end", -1),), ("process", 6)),
                (RUN + ((0, "read", -1),), ("read", 6)),
                (RUN + ((2, "stay", -1),), ("step", 6)),
                (RUN + ((2, "end", -1),), ("word", 6)),
                (RUN + ((2, "aside", 0),), ("number", 6)),
                (RUN + ((0, "aside", BIG),), ("number", 6)),
                (RUN + ((3, "end", -1),), ("process", 6)),
                (RUN + (None, (3, "end", -1)), ("step", 6)),
                (RUN + ((BIG, "go", BIG),), ("process", 6)),
                ((None,) + RUN, ("step", 0)), ([], ("shape", -1)), (list(RUN), ("shape", -1)), (None, ("shape", -1)),
                ("", ("shape", -1)), (RUN[0], ("step", 0)), ((RUN,), ("step", 0))):
            self.assert_told(PROGRAM, thing, fault)

    def test_go_and_asides(self):
        go = (("open", "open"), (("a", (("go", (1, 3)), ("end",), ("end",), ("go", (0,))), (("copy", "a"), ("start", "a"))),))
        for number in range(5):
            self.assert_told(go, ((0, "go", number),), None if number in (1, 3) else ("number", 0))
            self.assert_told(go, ((0, "aside", number),), None if number < 2 else ("number", 0))
        # An aside is possible at each place, as long as the process lives.
        self.assert_told(go, ((0, "go", 1), (0, "aside", 1), (0, "end", -1)), None)
        self.assert_told(go, ((0, "go", 1), (0, "end", -1), (0, "aside", 1)), ("process", 2))

    def test_asides_at_a_read_a_wait_and_a_stay(self):
        for places in ((("read", 0),), (("wait", 0),), (("stay",),)):
            program = (("open", "open"), (("a", places, (("copy", "a"),)),))
            self.assert_told(program, ((0, "aside", 0), (0, "aside", 0), (1, "aside", 0)), None)
            self.assert_told(program, ((0, "aside", 1),), ("number", 0))

    def test_reads_and_waits(self):
        run = FEW[1][1]
        self.assert_told(LATE, run, None)
        self.assert_told(LATE, run[:2] + ((1, "read", -1),), ("read", 2))
        self.assert_told(LATE, run[:3] + ((0, "wait", -1),), ("wait", 3))
        self.assert_told(LATE, run[:4] + ((0, "wait", -1),), ("wait", 4))
        # One that holds w itself never reads the end; one without r reads at once.
        own = (("open", "open"), (("a", (("read", 1), ("end",)), ()),))
        self.assert_told(own, ((0, "read", -1),), ("read", 0))
        deaf = (("open", "open"), (("a", (("close", "r", 1), ("read", 2), ("end",)), ()),))
        self.assert_told(deaf, ((0, "close", -1), (0, "read", -1), (0, "end", -1)), None)

    def test_programs_are_asked_for_first(self):
        for odd in [thing for thing in ODD if thing != PROGRAM] + [(("open", "open"), (MAIN, KID))]:
            for thing in (RUN, (), [], None, ((0, "stay", -1),)):
                for function in (is_run, lets_run):
                    self.assert_error(NotUsable, {"word": "program", "at": -1}, function, odd, thing)
                    self.assert_error(NotUsable, {"word": "program", "at": -1}, function, thing=thing, program=odd)

    def test_runs(self):
        for program, run in many_runs(26):
            for beginning in beginnings(run)[-3:]:
                self.assert_told(program, beginning, None)
                self.assert_told(program, list(beginning), ("shape", -1))

    def test_runs_with_one_difference(self):
        rng = random.Random(261)
        seen = {}
        for program, run in list(FEW) + list(many_runs(261, each=1, programs=60)):
            for k in range(len(run) + 1):
                changed = [run[:k] + run[k + 1:], run[:k] + run[k:k + 1] + run[k:], run[:k] + run[k + 1:k + 2] + run[k:k + 1] + run[k + 2:]]
                for other in rng.sample(ODD, 4) + rng.sample(STEPS, 8) + [list(step) for step in run[k:k + 1]]:
                    changed += [run[:k] + (other,) + run[k:], run[:k] + (other,) + run[k + 1:]]
                for thing in changed:
                    self.assert_as_told_twice(program, thing)
                    fault = run_fault(program, thing)
                    seen[fault[0] if fault else "fine"] = True
        self.assertEqual(sorted(seen), ["fine", "number", "process", "read", "step", "wait", "word"])

    def test_all_steps_behind_runs(self):
        for program, run in FEW:
            for beginning in beginnings(run):
                for step in STEPS:
                    self.assert_as_told_twice(program, beginning + (step,))

    def test_values_of_any_kind(self):
        for program in (PROGRAM, JOINS, BREED):
            for thing in ODD:
                self.assert_as_told_twice(program, thing)
                self.assert_as_told_twice(program, (thing,))
                self.assert_as_told_twice(program, (thing, thing))

    def test_a_very_long_run(self):
        program = (("open", "open"), (("a", (("go", (0,)),), (("start", "a"),)),))
        run = ((0, "go", 0), (0, "aside", 0), (1, "go", 0)) * 500
        self.assert_same(lets_run(program, run), 501)
        self.assert_error(InvalidPaper, {"word": "number", "at": 1500}, lets_run, program, run + ((3, "go", 1),))

    def test_the_second_telling_is_used_rightly(self):
        self.assertTrue(oracle.is_form("is_step", RUN[0]))
        self.assertIsNone(run_fault(PROGRAM, RUN))


if __name__ == "__main__":
    unittest.main()
