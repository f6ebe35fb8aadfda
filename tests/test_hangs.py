"""Hanging, for all numbers of processes (points 4, 5, 8, 34, 38 and 40)."""

import itertools
import random
import unittest

from keptends.errors import NotUsable
from keptends.fates import fates_of
from keptends.hangings import ways_at_end
from keptends.hangs import can_hang, fewest_processes, hang_run, ways_of
from keptends.kinds import WAYS
from keptends.runchecker import lets_run
from tests.checks import Case
from tests.fateoracle import fate_seen, first_of, has_way, least_numbers, woven
from tests.fatesamples import BOTH, CHAIN, NEVER, ROUND, SAFE, SELF, many_programs, random_lines, small_families
from tests.oracle import World
from tests.samples import BREED, CHOICE, JOINS, KID, LATE, MAIN, ODD, PROGRAM, RUN
from tests.test_fatechecker import ALL_WAYS, NO_WAYS

NO_PROGRAMS = [thing for thing in ODD if thing != PROGRAM] + [(BOTH, (MAIN, KID))]
NO_WORDS = [thing for thing in ODD if thing not in WAYS] + ["Own", "deaf", "kept", ("own",), ["own"], WAYS]


def least_by(program, way):
    """The fewest processes with which a program hangs in a way, or None, as the second telling has it."""
    numbers = least_numbers(program, first_of(program))[first_of(program)]
    return min((number for fate, number in numbers.items() if has_way(fate, way)), default=None)


def hangs_within(program, way, most, limit=3000):
    """Whether an early weaving of so many processes at most hangs in a way; None if that is too much to look at."""
    first = ((program[1][0][0], None, 0, program[0], True),)
    crowds, _ = woven(program, (first,), most, limit)
    if any(has_way(fate, way) for crowd in crowds for fate in fate_seen(program, crowd)):
        return True
    return None if len(crowds) >= limit else False


def rows_of_births(counts, waited, last):
    """A program in which each role lets so many of the next one be born, all waited for or left.

    The first role comes to its last places behind its births; the others end.
    """
    roles = []
    for k, count in enumerate(counts):
        places = [("copy", "abcdef"[k + 1], place + 1) for place in range(count)]
        if waited:
            places.append(("wait", count + 1))
        if k == 0:
            places += [at[:-1] + (at[-1] + len(places),) if len(at) > 1 else at for at in last]
        roles.append(("abcdef"[k], tuple(places) + (("end",),), ()))
    return (BOTH, tuple(roles) + (("abcdef"[len(counts)], (("end",),), ()),))


class Hangs(Case):
    def assert_way(self, program, way):
        """The fewest processes, and a run with so many, as the second telling has it."""
        before = repr(program)
        wanted = least_by(program, way)
        self.assert_same(fewest_processes(program, way), wanted, (program, way))
        self.assert_same(fewest_processes(way=way, program=program), wanted)
        run = hang_run(program, way)
        self.assert_same(hang_run(way=way, program=program), run)
        if wanted is None:
            self.assertIsNone(run)
        else:
            self.assert_hangs(program, run, way)
            self.assert_same(lets_run(program, run), wanted)
        self.assertEqual(repr(program), before)
        return wanted

    def assert_hangs(self, program, run, way):
        """It is an early run of the program that hangs so."""
        self.assertIsInstance(run, tuple)
        self.assertIn(way, ways_at_end(program, run))
        world = World(program)
        for step in run:
            self.assertIsNone(world.fault(step))
            self.assertTrue(step[1] != "read" or world.processes[step[0]].holds["r"] == "none")
            world.do(step)
        self.assertIn(way, world.ways())

    def test_the_examples(self):
        self.assert_same([ways_of(PROGRAM), can_hang(SAFE), fewest_processes(PROGRAM, "stays"), hang_run(PROGRAM, "own")],
                         [("stays",), False, 3, None])
        self.assert_hangs(PROGRAM, hang_run(PROGRAM, "stays"), "stays")
        self.assertIn("stays", ways_at_end(PROGRAM, RUN))

    def test_ways_of(self):
        seen = set()
        for program in many_programs(381, 80):
            before = repr(program)
            found = ways_of(program)
            fates = fates_of(program, program[1][0][0], program[0])
            self.assert_same(found, tuple(way for way in ("joins", "own", "stays") if any(has_way(fate, way) for fate in fates)))
            self.assert_same(ways_of(program=program), found)
            self.assertEqual(repr(program), before)
            seen.add(found)
        self.assertGreaterEqual(len(seen), 7)

    def test_can_hang(self):
        for program in many_programs(382, 25):
            found = ways_of(program)
            for ways in ALL_WAYS:
                self.assertIs(can_hang(program, ways=ways), any(way in found for way in ways))
                self.assertIs(can_hang(ways=ways, program=program), any(way in found for way in ways))
            self.assertIs(can_hang(program), bool(found))
            self.assertIs(can_hang(program=program), bool(found))
            self.assertIs(can_hang(program, ways=()), False)

    def test_fewest_processes_and_runs(self):
        seen = set()
        for program in many_programs(383, 60) + tuple(small_families(383, 60)) + tuple(random_lines(384, 60)):
            for way in WAYS:
                seen.add(self.assert_way(program, way))
            self.assertEqual(ways_of(program), tuple(way for way in sorted(WAYS) if least_by(program, way) is not None))
        self.assertLessEqual({None, 1, 2, 3, 4, 5, 6}, seen)

    def test_no_run_hangs_so_with_fewer(self):
        looked, seen = 0, set()
        for program in many_programs(385, 25) + tuple(small_families(385, 60)):
            for way in WAYS:
                fewest = fewest_processes(program, way)
                for many in range(1, 4):
                    found = hangs_within(program, way, many)
                    if found is not None:
                        looked += 1
                        seen.add((found, fewest))
                        self.assertIs(found, fewest is not None and fewest <= many)
        self.assertGreater(looked, 800)
        self.assertLessEqual({(True, 1), (True, 2), (True, 3), (False, 4), (False, None)}, seen)

    def test_ways_behind_weavings_are_among_ways_of(self):
        whole_ones = 0
        for program in many_programs(386, 20) + tuple(small_families(386, 80)):
            first = ((program[1][0][0], None, 0, program[0], True),)
            crowds, whole = woven(program, (first,), 3, 1500)
            ways = {way for crowd in crowds for fate in fate_seen(program, crowd) for way in WAYS if has_way(fate, way)}
            self.assertLessEqual(ways, set(ways_of(program)))
            if whole:
                whole_ones += 1
                self.assertEqual(ways, set(ways_of(program)))
        self.assertGreater(whole_ones, 80)

    def test_by_hand(self):
        own = (BOTH, (("a", (("read", 0),), ()),))
        self.assert_same([fewest_processes(own, way) for way in WAYS], [1, None, None])
        self.assert_same(hang_run(own, "own"), ())
        self.assert_same(hang_run(CHOICE, "own"), ((0, "go", 2),))
        self.assert_same([ways_of(program) for program in (SAFE, LATE, SELF, NEVER, CHOICE)], [(), (), (), (), ("own",)])
        self.assert_same(fewest_processes(JOINS, "stays"), None)
        joins = (BOTH, (("a", (("copy", "b", 1), ("wait", 2), ("end",)), ()), ("b", (("close", "w", 1), ("read", 2), ("end",)), ())))
        self.assert_same(ways_of(joins), ("joins",))
        self.assert_same(hang_run(joins, "joins"), ((0, "copy", -1), (1, "close", -1)))
        # One that stays with w, and one that waits at a read beside it, by asides.
        aside = (BOTH, (("a", (("stay",),), (("copy", "b"),)), ("b", (("close", "w", 1), ("read", 2), ("end",)), ())))
        self.assert_same(hang_run(aside, "stays"), ((0, "aside", 0), (1, "close", -1)))

    def test_rows_of_births(self):
        read = (("read", 1),)
        for counts in ((1,), (7,), (2, 3), (3, 6), (4, 4), (1, 1, 1), (2, 2, 2), (1, 2, 3), (5, 3), (1, 1, 1, 1)):
            whole = 1
            for count in reversed(counts):
                whole = 1 + count * whole
            self.assertLessEqual(whole, 22)
            # Waited for, each child and all that comes of it has to be born.
            self.assertEqual(self.assert_way(rows_of_births(counts, True, read), "own"), whole)
            # Left, a child need do nothing.
            self.assertEqual(self.assert_way(rows_of_births(counts, False, read), "own"), 1 + counts[0])
        self.assertEqual(self.assert_way(rows_of_births((3, 6), True, read), "own"), 22)

    def test_rows_that_join_and_stay(self):
        # Behind its births the first role bears one that reads, and waits for it or stays.
        reader = ("z", (("close", "w", 1), ("read", 2), ("end",)), ())
        for counts in ((1,), (6,), (2, 3), (4, 4), (2, 2, 2)):
            for waited in (True, False):
                whole = 1
                for count in reversed(counts):
                    whole = 1 + count * whole
                for last, way in ((("copy", "z", 1), ("wait", 2)), "joins"), ((("copy", "z", 1), ("stay",)), "stays"):
                    program = rows_of_births(counts, waited, last)
                    program = (BOTH, program[1] + (reader,))
                    self.assertEqual(self.assert_way(program, way), 1 + (whole if waited else 1 + counts[0]))

    def test_a_shorter_way_round(self):
        # One of two ways to the same read needs fewer, by what its children need.
        roles = (("a", (("go", (1, 3)), ("copy", "b", 2), ("wait", 6), ("copy", "c", 4), ("copy", "c", 5), ("wait", 6), ("read", 6)), ()),
                 ("b", (("copy", "c", 1), ("copy", "c", 2), ("wait", 3), ("end",)), ()), ("c", (("end",),), ()))
        self.assertEqual(self.assert_way((BOTH, roles), "own"), 3)
        longer = (roles[0], ("b", (("copy", "c", 1), ("wait", 2), ("end",)), ()), ("c", (("copy", "d", 1), ("end",)), ()),
                  ("d", (("end",),), ()))
        self.assertEqual(self.assert_way((BOTH, longer), "own"), 4)

    def test_births_without_end(self):
        for program in (BREED, ROUND, CHAIN, SELF):
            for way in WAYS:
                self.assert_way(program, way)

    def test_very_many_processes(self):
        program = rows_of_births((7, 7, 7), True, (("read", 1),))
        self.assert_same(fewest_processes(program, "own"), 1 + 7 + 49 + 343)
        run = hang_run(program, "own")
        self.assert_same(lets_run(program, run), 400)
        self.assert_same(ways_at_end(program, run), ("own",))
        deep = [("copy", name, 1) for name in "bcdefghijklmnopqrst"]
        roles = tuple((name, (birth, ("copy", birth[1], 2), ("wait", 3), ("end",)), ()) for name, birth in zip("abcdefghijklmnopqrs", deep))
        first = ("z", (("copy", "a", 1), ("wait", 2), ("read", 2)), ())
        self.assert_same(fewest_processes((BOTH, (first,) + roles + (("t", (("end",),), ()),)), "own"), 2 ** 20)

    def test_not_usable(self):
        self.assert_order(NotUsable, ways_of, {"program": PROGRAM}, {"program": NO_PROGRAMS})
        self.assert_order(NotUsable, can_hang, {"program": PROGRAM, "ways": ("joins", "own")},
                          {"program": NO_PROGRAMS, "ways": NO_WAYS}, ("ways",))
        for function in (fewest_processes, hang_run):
            self.assert_order(NotUsable, function, {"program": PROGRAM, "way": "stays"}, {"program": NO_PROGRAMS, "way": NO_WORDS})
        with self.assertRaises(TypeError):
            can_hang(PROGRAM, ())


class Laws(Case):
    def test_a_way_comes_just_if_a_fate_has_it(self):
        rng = random.Random(387)
        for program in many_programs(387, 20):
            for begin in itertools.product(("open", "marked"), repeat=2):
                other = (begin, program[1])
                fates = fates_of(program, program[1][0][0], begin)
                way = rng.choice(WAYS)
                self.assertIs(can_hang(other, ways=(way,)), any(has_way(fate, way) for fate in fates))


if __name__ == "__main__":
    unittest.main()
