"""Runs as objects (points 4 to 6, 23 to 28, 30 and 33)."""

import copy
import random
import unittest

from keptends.errors import InvalidStep, InvalidText, NotUsable
from keptends.hangings import first_shown, harms_shown, ways_at_end
from keptends.kinds import HARMS
from keptends.runclasses import Quiet, Run
from keptends.runtexts import run_text
from keptends.trees import holders_in, is_at_rest, next_steps, tree_after, waiting_in
from tests import oracle
from tests.checks import Case
from tests.oracle import World, shown_first
from tests.runsamples import FEW, NO_PROGRAMS, NO_RUNS, STEPS, all_runs, beginnings, many_runs
from tests.samples import BREED, CHOICE, LATE, ODD, PROGRAM, PROGRAMS, RUN

PROPERTIES = ("program_now", "run_now", "tree_now", "next_now", "rest_now", "waiting_now", "ways_now", "harms_now")
BOTH = ("open", "open")
# A harm at the first step, by none, and one behind another.
FIRST = (BOTH, (("a", (("close", "w", 1), ("write", 2), ("end",)), ()),))
AT_ONCE = (BOTH, (("a", (("stay",),), (("copy", "b"),)), ("b", (("read", 0),), ())))
NEXT = (BOTH, (("a", (("copy", "b", 1), ("close", "w", 2), ("write", 3), ("close", "r", 4), ("read", 4)), ()),
               ("b", (("go", (0, 1)), ("stay",)), ())))
NEXT_RUN = ((0, "copy", -1), (0, "close", -1), (0, "write", -1), (0, "close", -1), (0, "read", -1), (1, "go", 1))


class Late(Run):
    """A class that is derived from Run elsewhere."""


def new_harm(program, run):
    """The first step with which a harm is shown that those before it do not show, or None."""
    late = [first for first in shown_first(program, run).values() if first > 0]
    return min(late) - 1 if late else None


def odd_values(one):
    """Values of all kinds, objects of the package among them."""
    return ODD + (one, Run(*FEW[1]), Quiet(PROGRAM), STEPS[0], slice(0, 1), "end", "R", ("w",))


class Objects(Case):
    def each(self, seed, **limits):
        """Triples of a program, a run of it, and an object with it."""
        for program, run in list(FEW) + list(many_runs(seed, **limits)):
            yield program, run, Run(program, run)
            yield program, run, Late(steps=run, program=program)
            if new_harm(program, run) is None:
                yield program, run, Quiet(program, run)

    def assert_unchanged(self, program, run, one):
        self.assert_same((one.program_now, one.run_now), (program, run))
        self.assert_same(list(one), list(run))
        self.assert_same(one.tree_now, World(program, run).tree())


class Values(Objects):
    def test_the_examples(self):
        run = Run(PROGRAM, RUN)
        self.assert_same(
            [len(run), run[1], 2 in run, run % 0, str(run - 4), run - 1 <= run, run.first("kept")],
            [6, ("kid", 0, 3, "none", "none", False), True, ((0, "copy", -1), (0, "close", -1)), "0 copy\n1 start", True, 2])
        self.assert_error(NotUsable, {"word": "harm", "at": 1}, lambda: Quiet(PROGRAM, RUN[:1]) + (1, "start", -1))

    def test_properties_tell_what_the_functions_tell(self):
        functions = (tree_after, next_steps, is_at_rest, waiting_in, ways_at_end, harms_shown)
        for program, run, one in self.each(33, each=2, programs=60):
            wanted = [program, run] + [function(program, run) for function in functions]
            for _ in range(2):
                self.assert_same([getattr(one, name) for name in PROPERTIES], wanted)
            world = World(program, run)
            self.assert_same(one.tree_now, world.tree())
            self.assert_same(one.next_now, world.possible())
            self.assert_same(one.waiting_now, world.waiting())
            self.assert_same(one.ways_now, world.ways())
            self.assert_same(one.harms_now, tuple(sorted(shown_first(program, run))))
            self.assertIs(one.rest_now, {step[1] for step in world.possible()} <= {"aside"})

    def test_properties_cannot_be_assigned(self):
        for one in (Run(PROGRAM, RUN), Quiet(PROGRAM)):
            for name in PROPERTIES:
                with self.assertRaises(AttributeError):
                    setattr(one, name, ())

    def test_holders_and_first(self):
        for program, run, one in self.each(331, each=1, programs=40):
            for _ in range(2):
                for end in ("r", "w"):
                    self.assert_same(one.holders(end), World(program, run).holders(end))
                    self.assert_same(one.holders(end=end), holders_in(program, run, end))
                firsts = shown_first(program, run)
                for harm in HARMS:
                    self.assert_same(one.first(harm), firsts.get(harm))
                    self.assert_same(one.first(harm=harm), first_shown(program, run, harm))
            self.assert_unchanged(program, run, one)
        one = Run(PROGRAM, RUN)
        for odd in odd_values(one):
            if odd not in ("r", "w"):
                self.assert_error(NotUsable, {"word": "end", "at": -1}, one.holders, odd)
                self.assert_error(NotUsable, {"word": "end", "at": -1}, one.holders, end=odd)
            if odd not in HARMS:
                self.assert_error(NotUsable, {"word": "harm", "at": -1}, one.first, odd)
                self.assert_error(NotUsable, {"word": "harm", "at": -1}, one.first, harm=odd)

    def test_processes(self):
        for program, run, one in self.each(332, each=1, programs=40):
            tree = World(program, run).tree()
            for process, row in enumerate(tree):
                for _ in range(2):
                    self.assert_same(one[process], row)
                    self.assert_same(one % process, tuple(step for step in run if step[0] == process))
                    self.assertIs(process in one, True)
            for process in (len(tree), len(tree) + 5, -1, -len(tree), 10 ** 60):
                self.assert_error(NotUsable, {"word": "process", "at": -1}, lambda: one[process])
                self.assert_error(NotUsable, {"word": "process", "at": -1}, lambda: one % process)
                self.assertIs(process in one, False)

    def test_processes_that_are_of_other_kinds(self):
        for one in (Run(PROGRAM, RUN), Quiet(PROGRAM, RUN[:1]), Run(BREED)):
            for odd in odd_values(one):
                if isinstance(odd, bool) or not isinstance(odd, int) or odd not in range(len(one.tree_now)):
                    self.assert_error(NotUsable, {"word": "process", "at": -1}, lambda: one[odd])
                    self.assert_error(NotUsable, {"word": "process", "at": -1}, lambda: one % odd)
                    self.assertIs(odd in one, False)

    def test_length_iteration_and_text(self):
        for program, run, one in self.each(333, each=1, programs=40):
            for _ in range(2):
                self.assert_same(len(one), len(run))
                self.assert_same([step for step in one], list(run))
                self.assert_same(list(zip(one, one)), list(zip(run, run)))
                self.assertIs(type(str(one)), str)
                self.assert_same(str(one), run_text(run))
        self.assert_same(str(Run(PROGRAM)), "-")

    def test_errors_of_run(self):
        for kind in (Run, Quiet, Late):
            self.assert_order_of(kind)
        self.assert_error(NotUsable, {"word": "steps", "at": -1}, Run, LATE, RUN)
        self.assert_same(Run(PROGRAM).run_now, ())
        self.assert_same(Quiet(program=PROGRAM).run_now, ())
        self.assert_error(NotUsable, {"word": "program", "at": -1}, Run, None)

    def assert_order_of(self, kind):
        def made(program, steps):
            one = kind(program, steps)
            return (type(one), one.program_now, one.run_now)
        good = {"program": PROGRAM, "steps": RUN[:1]}
        self.assert_order(NotUsable, made, good, {"program": NO_PROGRAMS, "steps": NO_RUNS})
        self.assert_same(made(**good), (kind, PROGRAM, RUN[:1]))
        self.assert_same(kind(steps=RUN[:1], program=PROGRAM).run_now, RUN[:1])

    def test_derived_directly(self):
        self.assertEqual(Quiet.__bases__, (Run,))
        self.assertEqual(Run.__bases__, (object,))


class Changes(Objects):
    def test_a_step_more(self):
        seen = set()
        for program, run, one in self.each(334, each=1, programs=40):
            world = World(program, run)
            steps = random.Random(len(run)).sample(STEPS, 12) + list(world.possible()) + list(ODD[:6])
            for step in steps + [(process, word, -1) for process in range(2) for word in ("read", "wait")]:
                word = world.fault(step)
                seen.add(word)
                kept = copy.deepcopy(step)
                if word is not None:
                    self.assert_error(InvalidStep, {"step": step, "word": word}, lambda: one + step)
                elif isinstance(one, Quiet) and new_harm(program, run + (step,)) is not None:
                    self.assert_error(NotUsable, {"word": "harm", "at": len(run)}, lambda: one + step)
                else:
                    late = one + step
                    self.assertIs(type(late), type(one))
                    self.assert_unchanged(program, run + (step,), late)
                    self.assertIs(late - 1 == one, True)
                self.assert_same(step, kept)
            self.assert_unchanged(program, run, one)
        self.assertEqual(seen, {None, "step", "process", "word", "number", "read", "wait"})

    def test_steps_of_any_kind(self):
        one = Run(PROGRAM, RUN[:2])
        for odd in odd_values(one):
            word = World(PROGRAM, RUN[:2]).fault(odd) if isinstance(odd, tuple) else "step"
            if word is not None:
                with self.assertRaises(InvalidStep) as told:
                    one + odd
                self.assertIs(told.exception.step, odd)
                self.assertEqual(told.exception.word, word)

    def test_steps_less(self):
        for program, run, one in self.each(335, each=1, programs=40):
            for count in range(len(run) + 1):
                late = one - count
                self.assertIs(type(late), type(one))
                self.assert_unchanged(program, run[:len(run) - count], late)
                self.assertIs(late <= one, True)
            for odd in (len(run) + 1, -1, -len(run), 10 ** 60, True, False, None, "0", (0,), [0], one):
                if odd != 0 or isinstance(odd, bool):
                    self.assert_error(NotUsable, {"word": "count", "at": -1}, lambda: one - odd)
            self.assert_unchanged(program, run, one)

    def test_counts_of_any_kind(self):
        for one in (Run(PROGRAM, RUN), Quiet(PROGRAM, RUN[:1])):
            for odd in odd_values(one):
                if isinstance(odd, bool) or not isinstance(odd, int) or odd not in range(len(one) + 1):
                    self.assert_error(NotUsable, {"word": "count", "at": -1}, lambda: one - odd)

    def test_read(self):
        for program, run in list(FEW) + list(many_runs(336, each=1)):
            one = Run.read(program, run_text(run))
            self.assertIs(type(one), Run)
            self.assert_unchanged(program, run, one)
            self.assert_unchanged(program, run, Run.read(text=run_text(run), program=program))
        self.assertIsInstance(vars(Run)["read"], classmethod)

    def test_errors_of_read(self):
        no_texts = [thing for thing in ODD if not isinstance(thing, str)]
        good = {"program": PROGRAM, "text": run_text(RUN)}
        no_runs = [run_text(run) for run in (RUN[1:], RUN + RUN[:1], ((0, "aside", 0),), ((0, "go", 1),), FEW[1][1])]

        def read(program, text):
            return Run.read(program, text).run_now
        self.assert_order(NotUsable, read, good, {"program": NO_PROGRAMS, "text": no_texts + no_runs})
        for text, line, field in (("", 0, 0), ("0 stay", 0, 1), ("0 copy\n1 go", 1, 2), ("-\n", 0, 0), ("7 go", 0, 2)):
            self.assert_error(InvalidText, {"line": line, "field": field}, Run.read, PROGRAM, text)
            # What is no run of the program is told behind what nothing writes.
            self.assert_error(InvalidText, {"line": 2 + line, "field": field}, Run.read, PROGRAM, "9 end\n9 end\n" + text)
            self.assert_error(NotUsable, {"word": "program", "at": -1}, Run.read, None, text)


class Comparing(Objects):
    def objects(self):
        """Objects of equal and of other programs, some of them with equal steps."""
        programs = [PROGRAM, copy.deepcopy(PROGRAM), (("marked", "open"), PROGRAM[1]), (("open", "marked"), PROGRAM[1]),
                    LATE, CHOICE, (BOTH, PROGRAM[1] + (("more", (("end",),), ()),))]
        found = []
        for program in programs:
            for length in range(3):
                for run in all_runs(program, length):
                    found.append((program, run, Run(program, run)))
                    if new_harm(program, run) is None:
                        found.append((program, run, Quiet(program, run)))
        return found + [(PROGRAM, RUN, Run(PROGRAM, RUN)), (PROGRAM, RUN[:4], Late(PROGRAM, RUN[:4]))]

    def test_equal_and_beginning(self):
        objects = self.objects()
        for program, run, one in objects:
            for other_program, other_run, other in objects:
                equal = program == other_program and run == other_run
                self.assertIs(one == other, equal)
                self.assertIs(one != other, not equal)
                begins = program == other_program and run == other_run[:len(run)]
                self.assertIs(one <= other, begins)

    def test_one_word_of_the_begin(self):
        for begin in (("open", "marked"), ("marked", "open"), ("marked", "marked")):
            one, other = Run(PROGRAM, RUN[:1]), Run((begin, PROGRAM[1]), RUN[:1])
            self.assertIs(one == other, False)
            self.assertIs(one <= other, False)
            self.assertIs(other <= one, False)

    def test_one_step(self):
        for program, run, one in self.each(337, each=1, programs=20):
            steps = World(program, run).possible()[:4]
            later = [Run(program, run + (step,)) for step in steps]
            for other, late in zip(steps, later):
                self.assertIs(late == one, False)
                self.assertIs(one <= late, True)
                self.assertIs(late <= one, False)
                for third, beside in zip(steps, later):
                    self.assertIs(beside == late, third == other)
                    self.assertIs(beside <= late, third == other)

    def test_other_values(self):
        for one in (Run(PROGRAM, RUN), Quiet(PROGRAM), Late(PROGRAM)):
            for odd in ODD + (RUN, (PROGRAM, RUN), str(one), object()):
                self.assertIs(one == odd, False)
                self.assertIs(odd == one, False)
                self.assertIs(one != odd, True)
                self.assert_error(NotUsable, {"word": "other", "at": -1}, lambda: one <= odd)


class QuietOnes(Objects):
    def test_by_hand(self):
        self.assert_error(NotUsable, {"word": "harm", "at": 1}, Quiet, FIRST, ((0, "close", -1), (0, "write", -1)))
        self.assert_error(NotUsable, {"word": "harm", "at": 0}, Quiet, AT_ONCE, ((0, "aside", 0),))
        self.assert_error(NotUsable, {"word": "harm", "at": 2}, Quiet, NEXT, NEXT_RUN)
        self.assert_error(NotUsable, {"word": "harm", "at": 2}, Quiet, NEXT, NEXT_RUN[:3])
        self.assert_same(Quiet(NEXT, NEXT_RUN[:2]).run_now, NEXT_RUN[:2])
        # What () shows is let, also once more.
        self.assert_same(Quiet(AT_ONCE).harms_now, ("kept",))
        more = (BOTH, (("a", (("stay",),), (("copy", "a"),)),))
        self.assert_same(Quiet(more, ((0, "aside", 0), (1, "aside", 0))).harms_now, ("kept",))

    def test_many_runs(self):
        seen = set()
        for program, run in list(FEW) + list(many_runs(338)) + [(NEXT, NEXT_RUN)]:
            for beginning in beginnings(run):
                at = new_harm(program, beginning)
                if at is None:
                    one = Quiet(program, beginning)
                    self.assert_unchanged(program, beginning, one)
                    self.assert_same(one.harms_now, harms_shown(program, ()))
                    self.assertIs(one == Run(program, beginning), True)
                    self.assertIs(Run(program, beginning) == one, True)
                    self.assertIs(one <= Run(program, run), True)
                else:
                    seen.add(at)
                    self.assert_error(NotUsable, {"word": "harm", "at": at}, Quiet, program, beginning)
                    self.assert_error(NotUsable, {"word": "harm", "at": at}, Quiet, steps=beginning, program=program)
        self.assertLessEqual({0, 1, 2, 3, 4, 5}, seen)

    def test_errors_of_run_come_first(self):
        for odd in (RUN[1:], RUN + RUN[:1], list(RUN), None):
            self.assert_error(NotUsable, {"word": "steps", "at": -1}, Quiet, PROGRAM, odd)
        self.assert_error(InvalidStep, {"step": (1, "read", -1), "word": "word"},
                          lambda: Quiet(PROGRAM, RUN[:1]) + (1, "read", -1))

    def test_the_second_telling_is_used_rightly(self):
        self.assertEqual(new_harm(PROGRAM, RUN), 1)
        self.assertIsNone(new_harm(PROGRAM, RUN[:1]))
        self.assertTrue(oracle.is_form("is_step", NEXT_RUN[5]))


class Laws(Objects):
    def test_points_22_and_29_of_objects(self):
        for program in PROGRAMS:
            for length in range(4 if program in (PROGRAM, LATE, CHOICE) else 3):
                for run in all_runs(program, length):
                    one = Run(program, run)
                    self.assertIs(Run.read(program, str(one)) == one, True)
                    self.assertEqual([step for process in range(len(one.tree_now)) for step in one % process],
                                     sorted(run, key=lambda step: step[0]))
                    for step in one.next_now:
                        self.assertIs(one <= one + step, True)
                        self.assertLessEqual(set(one.harms_now), set((one + step).harms_now))


if __name__ == "__main__":
    unittest.main()
