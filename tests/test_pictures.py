"""Pictures of what there is behind runs (points 4, 5, 23 and 32)."""

import copy
import unittest

from keptends.errors import NotUsable
from keptends.pictures import run_picture
from tests.checks import Case
from tests.oracle import World
from tests.runsamples import FEW, NO_PROGRAMS, NO_RUNS, beginnings, many_runs
from tests.samples import BREED, PROGRAM, RUN

SIGNS = {"none": "-", "open": "o", "marked": "m"}


def by_hand(program, run):
    """The picture as the second telling has it."""
    world = World(program, run)
    waiting = world.waiting()
    lines = []
    for one in world.processes:
        number, parent = str(one.number), "-" if one.parent is None else str(one.parent.number)
        parts = [" " * (2 - len(number)) + number, one.role[0] + " " * (8 - len(one.role[0])),
                 " " * (2 - len(parent)) + parent, " " * (2 - len(str(one.place))) + str(one.place),
                 SIGNS[one.holds["r"]] + SIGNS[one.holds["w"]], one.at()[0] if one.lives else "ended"]
        lines.append(" ".join(parts + ["waits"] * (one.number in waiting)))
    return lines


class Pictures(Case):
    def test_the_example(self):
        self.assert_same(run_picture(PROGRAM, RUN), [
            " 0 main      -  2 o- read waits", " 1 kid       0  3 -- ended", " 2 server    1  0 oo stay"])

    def test_behind_each_beginning(self):
        for program, run in FEW:
            for beginning in beginnings(run):
                before = repr((program, beginning))
                found = run_picture(program, beginning)
                self.assert_same(found, by_hand(program, beginning))
                self.assert_same(run_picture(run=beginning, program=program), found)
                self.assertEqual(repr((program, beginning)), before)

    def test_many_runs(self):
        for program, run in many_runs(32):
            self.assert_same(run_picture(program, run), by_hand(program, run))

    def test_more_than_nine_processes_and_places(self):
        many = tuple(("copy", "kid", k + 1) for k in range(12))
        program = (("marked", "open"), (
            ("abcdefgh", many + (("mark", "w", 13), ("close", "r", 14), ("wait", 14)), (("start", "kid"),)),
            ("kid", (("read", 0),), (("copy", "kid"),))))
        run = ((0, "aside", 0),) + ((0, "copy", -1),) * 12 + ((0, "mark", -1), (0, "close", -1), (12, "aside", 0))
        found = run_picture(program, run)
        self.assert_same(found, by_hand(program, run))
        self.assertEqual(found[0], " 0 abcdefgh  - 14 -m wait")
        # The aside's child was started without what was marked; it reads no end of its own.
        self.assertEqual(found[1], " 1 kid       0  0 -o read")
        self.assertEqual(found[2], " 2 kid       0  0 mo read waits")
        self.assertEqual(found[13], "13 kid       0  0 mo read waits")
        self.assertEqual(found[14], "14 kid      12  0 mo read waits")

    def test_more_than_ninety_nine_processes(self):
        program = (("open", "open"), (("a", (("stay",),), (("copy", "a"),)),))
        found = run_picture(program, ((0, "aside", 0),) + tuple((k, "aside", 0) for k in range(1, 101)))
        self.assertEqual(found[101], "101 a        100  0 oo stay")
        self.assertEqual(found[100], "100 a        99  0 oo stay")

    def test_lists_belong_to_the_caller(self):
        wanted = by_hand(PROGRAM, RUN)
        kept = copy.deepcopy((PROGRAM, RUN))
        found = run_picture(PROGRAM, RUN)
        found.append("more")
        found[0] = ""
        self.assert_same(run_picture(PROGRAM, RUN), wanted)
        self.assert_same((PROGRAM, RUN), kept)

    def test_errors(self):
        self.assert_order(NotUsable, run_picture, {"program": PROGRAM, "run": RUN}, {"program": NO_PROGRAMS, "run": NO_RUNS})
        self.assert_error(NotUsable, {"word": "run", "at": -1}, run_picture, BREED, RUN)


if __name__ == "__main__":
    unittest.main()
