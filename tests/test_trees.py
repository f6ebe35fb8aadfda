"""What there is behind runs (points 3, 4, 5, 23, 24, 25 and 29)."""

import unittest

from keptends.errors import NotUsable
from keptends.trees import came_of, holders_in, is_at_rest, next_steps, tree_after, waiting_in
from tests.checks import Case
from tests.oracle import World
from tests.runsamples import FEW, NO_PROGRAMS, NO_RUNS, beginnings, many_runs
from tests.samples import BIG, BREED, LATE, ODD, PROGRAM, RUN


class Trees(Case):
    def assert_behind(self, program, run):
        """All six functions tell what the second telling tells."""
        before = repr((program, run))
        world = World(program, run)
        self.assert_same(tree_after(program, run), world.tree())
        self.assert_same(tree_after(program=program, run=run), world.tree())
        steps = world.possible()
        self.assert_same(next_steps(program, run), steps)
        self.assert_same(next_steps(run=run, program=program), steps)
        rests = not [step for step in steps if step[1] != "aside"]
        self.assertIs(is_at_rest(program, run), rests)
        self.assertIs(is_at_rest(run=run, program=program), rests)
        self.assert_same(waiting_in(program, run), world.waiting())
        self.assert_same(waiting_in(run=run, program=program), world.waiting())
        for end in ("r", "w"):
            self.assert_same(holders_in(program, run, end), world.holders(end))
            self.assert_same(holders_in(end=end, run=run, program=program), world.holders(end))
        for process in world.processes:
            wanted = tuple(sorted(other.number for other in process.line()))
            self.assert_same(came_of(program, run, process.number), wanted)
            self.assert_same(came_of(process=process.number, run=run, program=program), wanted)
        self.assertEqual(repr((program, run)), before)

    def test_by_hand(self):
        self.assert_same(tree_after(PROGRAM, ()), (("main", None, 0, "open", "open", True),))
        self.assert_same(tree_after(PROGRAM, RUN), (
            ("main", None, 2, "open", "none", True), ("kid", 0, 3, "none", "none", False),
            ("server", 1, 0, "open", "open", True)))
        self.assert_same(next_steps(PROGRAM, RUN[:1]), ((0, "close", -1), (1, "start", -1)))
        self.assert_same(next_steps(PROGRAM, RUN), ())
        self.assertIs(is_at_rest(PROGRAM, RUN), True)
        self.assertIs(is_at_rest(PROGRAM, RUN[:5]), False)
        self.assert_same(waiting_in(PROGRAM, RUN), (0,))
        self.assert_same(waiting_in(PROGRAM, RUN[:2]), ())
        self.assert_same(holders_in(PROGRAM, RUN, "r"), (0, 2))
        self.assert_same(holders_in(PROGRAM, RUN, "w"), (2,))
        self.assert_same([came_of(PROGRAM, RUN, process) for process in range(3)], [(1, 2), (2,), ()])

    def test_what_is_handed_on(self):
        # By copy all, by start only what is open; what is closed stays so.
        for r in ("open", "marked"):
            for w in ("open", "marked"):
                for word in ("copy", "start"):
                    program = ((r, w), (("a", (("stay",),), (("copy", "a"), ("start", "a"))),))
                    step = (0, "aside", ("copy", "start").index(word))
                    now = {"open": "open", "marked": "marked" if word == "copy" else "none"}
                    self.assert_same(tree_after(program, (step,))[1], ("a", 0, 0, now[r], now[w], True))
                    births = ((r, w), (("a", ((word, "b", 1), ("stay",)), ()), ("b", (("end",),), ())))
                    self.assert_same(tree_after(births, ((0, word, -1),)), (
                        ("a", None, 1, r, w, True), ("b", 0, 0, now[r], now[w], True)))
        closed = (("open", "open"), (("a", (("close", "r", 1), ("mark", "r", 2), ("copy", "a", 2)), ()),))
        run = ((0, "close", -1), (0, "mark", -1), (0, "copy", -1))
        self.assert_same(tree_after(closed, run), (("a", None, 2, "none", "open", True), ("a", 0, 0, "none", "open", True)))

    def test_mark_and_close_by_hand(self):
        role = ("a", (("mark", "w", 1), ("mark", "r", 2), ("mark", "w", 3), ("close", "w", 4), ("mark", "w", 5),
                      ("close", "w", 6), ("close", "r", 7), ("end",)), ())
        wanted = (("open", "open"), ("open", "marked"), ("marked", "marked"), ("marked", "marked"), ("marked", "none"),
                  ("marked", "none"), ("marked", "none"), ("none", "none"))
        program = (("open", "open"), (role,))
        run = tuple((0, place[0], -1) for place in role[1])
        for k, (r, w) in enumerate(wanted):
            self.assert_same(tree_after(program, run[:k]), (("a", None, k, r, w, True),))
        self.assert_same(tree_after(program, run), (("a", None, 7, "none", "none", False),))

    def test_ended_ones_hold_nothing_and_stay_where_they_were(self):
        program = (("marked", "open"), (("a", (("write", 1), ("end",)), (("copy", "a"),)),))
        run = ((0, "aside", 0), (0, "write", -1), (0, "end", -1))
        self.assert_same(tree_after(program, run), (
            ("a", None, 1, "none", "none", False), ("a", 0, 0, "marked", "open", True)))
        self.assert_same(next_steps(program, run), ((1, "aside", 0), (1, "write", -1)))
        self.assert_same(came_of(program, run, 0), (1,))

    def test_waits_for_all_that_came_of_it(self):
        waits = (("wait", 1), ("end",))
        program = (("open", "open"), (
            ("a", (("copy", "b", 1), ("wait", 2), ("end",)), ()), ("b", (("copy", "c", 1), ("end",)), ()), ("c", waits, ())))
        run = ((0, "copy", -1), (1, "copy", -1), (1, "end", -1))
        # The child has ended, but its child has not.
        self.assert_same(next_steps(program, run), ((2, "wait", -1),))
        run += ((2, "wait", -1), (2, "end", -1))
        self.assert_same(next_steps(program, run), ((0, "wait", -1),))

    def test_reads_that_are_possible(self):
        reader = ("a", (("close", "w", 1), ("read", 2), ("end",)), (("copy", "b"),))
        program = (("open", "open"), (reader, ("b", (("read", 1), ("end",)), ())))
        run = ((0, "close", -1),)
        self.assert_same(next_steps(program, run), ((0, "aside", 0), (0, "read", -1)))
        # A child that was born ahead of the closing holds w, and waits for ever.
        run = ((0, "aside", 0), (0, "close", -1))
        self.assert_same(next_steps(program, run), ((0, "aside", 0),))
        self.assertIs(is_at_rest(program, run), True)
        self.assert_same(waiting_in(program, run), (0, 1))

    def test_rest_with_asides_alone_and_with_none(self):
        self.assertIs(is_at_rest((("open", "open"), (("a", (("stay",),), (("copy", "a"),)),)), ()), True)
        self.assertIs(is_at_rest((("open", "open"), (("a", (("stay",),), ()),)), ()), True)
        self.assertIs(is_at_rest((("open", "open"), (("a", (("end",),), ()),)), ()), False)
        self.assertIs(is_at_rest((("open", "open"), (("a", (("end",),), ()),)), ((0, "end", -1),)), True)

    def test_behind_each_beginning(self):
        for program, run in FEW:
            for beginning in beginnings(run):
                self.assert_behind(program, beginning)
        for program, run in many_runs(23):
            for beginning in beginnings(run)[-4:]:
                self.assert_behind(program, beginning)

    def test_a_long_run_with_births_without_end(self):
        run = [run for _, run in many_runs(24) if len(run) == 60][0]
        self.assertIn("aside", [step[1] for step in run])
        for beginning in beginnings(run)[::5]:
            self.assert_behind(BREED, beginning)
        self.assertGreater(len(tree_after(BREED, run)), 20)

    def test_errors(self):
        no_ends = [thing for thing in ODD if thing not in ("r", "w")] + [["r"], ("w",), "R"]
        no_processes = [thing for thing in ODD if not (isinstance(thing, int) and not isinstance(thing, bool) and 0 <= thing < 3)]
        for function in (tree_after, next_steps, is_at_rest, waiting_in):
            self.assert_order(NotUsable, function, {"program": PROGRAM, "run": RUN},
                              {"program": NO_PROGRAMS, "run": NO_RUNS})
        self.assert_order(NotUsable, holders_in, {"program": PROGRAM, "run": RUN, "end": "r"},
                          {"program": NO_PROGRAMS, "run": NO_RUNS, "end": no_ends})
        self.assert_order(NotUsable, came_of, {"program": PROGRAM, "run": RUN, "process": 2},
                          {"program": NO_PROGRAMS, "run": NO_RUNS, "process": no_processes + [3, -1, -3, BIG]})
        self.assert_error(NotUsable, {"word": "run", "at": -1}, tree_after, LATE, RUN)
        self.assert_error(NotUsable, {"word": "process", "at": -1}, came_of, PROGRAM, (), 1)


class Consequences(Case):
    def test_point_29(self):
        for program, run in many_runs(29, each=2):
            tree = tree_after(program, run)
            steps = next_steps(program, run)
            for process, row in enumerate(tree):
                self.assertTrue(all(other > process for other in came_of(program, run, process)))
                if not row[5]:
                    self.assertNotIn(process, [step[0] for step in steps])
                    self.assertNotIn(process, holders_in(program, run, "r") + holders_in(program, run, "w"))
            self.assert_same(came_of(program, run, 0), tuple(range(1, len(tree))))
            self.assertIs(is_at_rest(program, run), {step[1] for step in steps} <= {"aside"})

    def test_ends_that_nobody_holds_stay_so(self):
        seen = 0
        for program, run in FEW + tuple(many_runs(30)):
            for k in range(len(run)):
                if not holders_in(program, run[:k], "r") + holders_in(program, run[:k], "w"):
                    seen += 1
                    for longer in beginnings(run)[k:]:
                        self.assert_same((holders_in(program, longer, "r"), holders_in(program, longer, "w")), ((), ()))
        self.assertGreater(seen, 5)


if __name__ == "__main__":
    unittest.main()
