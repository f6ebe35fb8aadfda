"""Runs made (points 27 and 29)."""

import itertools
import random
import types
import unittest

from keptends.errors import InvalidStep, NotUsable
from keptends.runchecker import is_run
from keptends.runs import after_step, runs_of_length
from keptends.trees import next_steps
from tests.checks import Case
from tests.oracle import World
from tests.runsamples import FEW, NO_PROGRAMS, NO_RUNS, STEPS, all_runs, beginnings, many_runs
from tests.samples import BIG, BREED, CHOICE, KID, MAIN, ODD, PROGRAM, PROGRAMS, RUN, random_programs


class AfterStep(Case):
    def assert_step(self, program, run, step):
        """The step is done, or refused with the very value and the word of the second telling."""
        word = World(program, run).fault(step)
        if word is None:
            self.assert_same(after_step(program, run, step), run + (step,))
            self.assert_same(after_step(step=step, run=run, program=program), run + (step,))
        else:
            self.assert_error(InvalidStep, {"step": step, "word": word}, after_step, program, run, step)
            with self.assertRaises(InvalidStep) as told:
                after_step(step=step, run=run, program=program)
            self.assertIs(told.exception.step, step)

    def test_by_hand(self):
        self.assert_same(after_step(PROGRAM, (), (0, "copy", -1)), ((0, "copy", -1),))
        self.assert_same(after_step(PROGRAM, RUN[:5], RUN[5]), RUN)
        for run, step, word in (
                (RUN, (0, "read", -1), "read"), (RUN, (1, "end", -1), "process"), (RUN, (2, "end", -1), "word"),
                (RUN, (2, "stay", -1), "step"), (RUN, (0, "aside", 0), "number"), ((), (0, "read", -1), "word"),
                ((), (1, "copy", -1), "process"), ((), [0, "copy", -1], "step"), ((), (False, "copy", -1), "step"),
                ((), None, "step"), ((), (0, "copy", 0), "step")):
            self.assert_error(InvalidStep, {"step": step, "word": word}, after_step, PROGRAM, run, step)

    def test_all_steps_around(self):
        for program, run in FEW:
            for beginning in beginnings(run):
                for step in STEPS:
                    self.assert_step(program, beginning, step)

    def test_values_of_any_kind(self):
        for thing in ODD + (RUN, BIG, {}, object()):
            self.assert_step(PROGRAM, RUN[:3], thing)

    def test_those_that_are_let_are_just_next_steps(self):
        for program, run in many_runs(27, each=2):
            steps = next_steps(program, run)
            most = len(World(program, run).processes)
            for step in random.Random(len(run)).sample(STEPS, 40) + list(steps):
                if step[0] <= most:
                    self.assert_step(program, run, step)
                    self.assertEqual(step in steps, World(program, run).fault(step) is None)
            for step in steps:
                self.assertIs(is_run(program, after_step(program, run, step)), True)

    def test_errors(self):
        # Any value may be the step; program and run are asked for ahead of it.
        self.assert_order(NotUsable, after_step, {"program": PROGRAM, "run": RUN[:1], "step": RUN[1]},
                          {"program": NO_PROGRAMS, "run": NO_RUNS})
        self.assert_error(NotUsable, {"word": "program", "at": -1}, after_step, (("open", "open"), (MAIN, KID)), [], None)
        self.assert_error(NotUsable, {"word": "run", "at": -1}, after_step, PROGRAM, [], None)


class RunsOfLength(Case):
    def test_by_hand(self):
        self.assert_same(list(runs_of_length(PROGRAM, 2)), [
            ((0, "copy", -1), (0, "close", -1)), ((0, "copy", -1), (1, "start", -1))])
        self.assert_same(list(runs_of_length(PROGRAM, 0)), [()])
        self.assert_same(list(runs_of_length(CHOICE, 1)), [((0, "go", 1),), ((0, "go", 2),)])
        # The shorter way comes to rest, and is no run of that length.
        self.assert_same(list(runs_of_length(CHOICE, 2)), [((0, "go", 1), (0, "close", -1))])
        self.assert_same(list(runs_of_length((("open", "open"), (("a", (("end",),), ()),)), 2)), [])

    def test_all_of_each_length(self):
        for program in PROGRAMS + tuple(random_programs(271, 40)):
            for length in range(4 if len(list(runs_of_length(program, 2))) < 40 else 3):
                found = list(runs_of_length(program, length))
                self.assert_same(found, all_runs(program, length))
                self.assert_same(found, sorted(set(found)))
                self.assert_same(list(runs_of_length(length=length, program=program)), found)

    def test_with_one_word_of_the_begin_turned(self):
        for begin in (("marked", "open"), ("open", "marked"), ("marked", "marked")):
            for program in PROGRAMS:
                for length in range(4):
                    found = list(runs_of_length((begin, program[1]), length))
                    if len(found) < 200:
                        self.assert_same(found, all_runs((begin, program[1]), length))

    def test_no_length_is_asked_for_where_nothing_is(self):
        # A generator of which nothing is asked refuses nothing.
        for odd in (None, -1, True, "2"):
            runs_of_length(PROGRAM, odd)
            runs_of_length(None, odd)
            self.assertEqual(list(zip((), runs_of_length(PROGRAM, odd))), [])

    def test_runs_of_four_steps(self):
        for program in (PROGRAM, CHOICE, BREED):
            found = list(runs_of_length(program, 4))
            self.assert_same(found, all_runs(program, 4))

    def test_long_ones_come_one_by_one(self):
        found = list(itertools.islice(runs_of_length(BREED, 60), 3))
        self.assertEqual([len(run) for run in found], [60, 60, 60])
        self.assertEqual(found, sorted(set(found)))
        self.assert_same(found[0], ((0, "aside", 0),) * 60)
        self.assert_same(list(runs_of_length(PROGRAM, 60)), [])

    def test_a_generator(self):
        self.assertIsInstance(runs_of_length(PROGRAM, 1), types.GeneratorType)
        no_lengths = [thing for thing in ODD if isinstance(thing, bool) or not isinstance(thing, int) or thing < 0]
        for program in NO_PROGRAMS:
            for length in [1] + no_lengths[:4]:
                self.assert_late("program", program, length)
        for length in no_lengths:
            self.assert_late("length", PROGRAM, length)

    def assert_late(self, word, program, length):
        """The error is raised when the first run is asked for, not ahead of that."""
        for late in (runs_of_length(program, length), runs_of_length(length=length, program=program)):
            self.assert_error(NotUsable, {"word": word, "at": -1}, next, late)


if __name__ == "__main__":
    unittest.main()
