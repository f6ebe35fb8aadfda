"""Sets of shuts as objects (points 43, 48, 49, 51 and 52)."""

import copy
import random
import unittest

from keptends.errors import NotUsable
from keptends.hangs import ways_of
from keptends.harms import harms_of
from keptends.kinds import WAYS
from keptends.programclasses import Program
from keptends.programchanges import put_in
from keptends.shutclasses import Shuts
from keptends.shuttings import least_shuts, shut
from tests.checks import Case
from tests.fatesamples import SAFE
from tests.runsamples import NO_PROGRAMS
from tests.samples import LATE, ODD, PROGRAM
from tests.shutoracle import least_and_greatest, put_together
from tests.shutsamples import ALL_WAYS, GIVEN, NO_SHUTS, NO_WAYS, THREE, all_shuts, drawn_shuts, programs_with_shuts


class Objects(Case):
    def test_the_examples(self):
        one = Shuts(PROGRAM, GIVEN[1:2])
        self.assert_same(
            [one.ways_now, one.spares(ways=("own",)), (one + GIVEN[0]).spares(), GIVEN[0] in one, str(one + GIVEN[0]), str(one - GIVEN[1])],
            [("stays",), True, True, False, "mark kid 0, close kid 1", "-"])
        self.assert_same(
            [[str(some) for some in Shuts(PROGRAM, GIVEN).least_within()], (one | Shuts(PROGRAM, GIVEN[:1])) == one + GIVEN[0],
             one <= Shuts(PROGRAM)], [["mark kid 0", "mark main 0"], True, False])

    def assert_shuts(self, one, program, shuts):
        """The object has these shuts of the program, and tells all that follows."""
        self.assertIs(type(one), Shuts)
        self.assert_same(one.program_now, program)
        self.assert_same(one.shuts_now, shuts)
        self.assert_same(one.shut_now, put_together(program, shuts))
        self.assert_same(one.ways_now, ways_of(put_together(program, shuts)))
        self.assert_same(one.harms_now, harms_of(put_together(program, shuts)))
        self.assertIs(one.spares(), one.ways_now == ())
        self.assert_same(len(one), len(shuts))
        self.assert_same(list(one), list(shuts))
        self.assert_same(str(one), ", ".join(f"{word} {name} {place}" for name, place, word in shuts) or "-")
        self.assertIs(one == Shuts(program, shuts), True)
        self.assertIs(one != Shuts(program, shuts), False)

    def test_properties(self):
        for program, shuts in programs_with_shuts(511, 20):
            self.assert_shuts(Shuts(program, shuts), program, shuts)
            self.assert_shuts(Shuts(shuts=shuts, program=program), program, shuts)
        self.assert_shuts(Shuts(PROGRAM), PROGRAM, ())
        self.assert_shuts(Shuts(program=PROGRAM), PROGRAM, ())

    def test_spares(self):
        for program, shuts in programs_with_shuts(512, 6):
            one = Shuts(program, shuts)
            for ways in ALL_WAYS:
                self.assertIs(one.spares(ways=ways), not set(ways) & set(one.ways_now))

    def test_least_within(self):
        rng = random.Random(513)
        many = 0
        for program, shuts in programs_with_shuts(513, 10, 5):
            one = Shuts(program, shuts)
            for ways in (WAYS, rng.choice(ALL_WAYS)):
                found = list(one.least_within(ways=ways))
                self.assert_same([some.shuts_now for some in found], list(least_and_greatest(program, shuts, ways)[0]))
                for some in found:
                    many += 1
                    self.assert_shuts(some, program, some.shuts_now)
                    self.assertTrue(some.spares(ways=ways) and some <= one)
                self.assertTrue(found == list(one.least_within(ways=ways)))
            self.assert_same([some.shuts_now for some in one.least_within()], list(least_shuts(program, shuts)))
        self.assertGreater(many, 30)

    def test_least_within_yields_one_by_one(self):
        sets = Shuts(PROGRAM, GIVEN).least_within()
        self.assertEqual(type(sets).__name__, "generator")
        self.assert_same([str(next(sets)), str(next(sets)), next(sets, None)], ["mark kid 0", "mark main 0", None])
        for ways in NO_WAYS:
            # Nothing is raised before the first one is asked for.
            sets = Shuts(PROGRAM, GIVEN).least_within(ways=ways)
            self.assert_error(NotUsable, {"word": "ways", "at": -1}, next, sets)
            self.assert_error(NotUsable, {"word": "ways", "at": -1}, Shuts(PROGRAM).spares, ways=ways)

    def test_plus_and_minus(self):
        rng = random.Random(514)
        for program, shuts in programs_with_shuts(514, 12):
            one = Shuts(program, shuts)
            for part in rng.sample(all_shuts(program), min(4, len(all_shuts(program)))) + list(shuts[:2]):
                self.assert_shuts(one + part, program, tuple(sorted(set(shuts) | {part})))
                self.assertIs(part in one, part in shuts)
                if part in shuts:
                    self.assert_shuts(one - part, program, tuple(other for other in shuts if other != part))
                else:
                    self.assert_error(NotUsable, {"word": "shut", "at": -1}, lambda: one - part)
            self.assert_shuts(one, program, shuts)

    def test_plus_minus_and_in_with_any_value(self):
        one = Shuts(PROGRAM, GIVEN)
        for thing in ODD + NO_SHUTS[-1] + (("kid", False, "mark"), ("kid", 0, "Mark"), ["kid", 0, "mark"], ("kid", 9, "mark"), one, GIVEN,
                                           ("kid", 0), ("kid", 0, "mark", "w"), Program(*PROGRAM)):
            self.assert_error(NotUsable, {"word": "shut", "at": -1}, lambda: one + thing)
            self.assert_error(NotUsable, {"word": "shut", "at": -1}, lambda: one - thing)
            self.assertIs(thing in one, False)
        # A shut of the program that is none of them.
        self.assert_error(NotUsable, {"word": "shut", "at": -1}, lambda: one - ("server", 0, "mark"))

    def test_two_objects(self):
        rng = random.Random(515)
        for program, shuts in programs_with_shuts(515, 12):
            one = Shuts(program, shuts)
            for _ in range(3):
                others = drawn_shuts(rng, program)
                other = Shuts(program, others)
                self.assert_shuts(one | other, program, tuple(sorted(set(shuts) | set(others))))
                self.assert_shuts(one & other, program, tuple(sorted(set(shuts) & set(others))))
                self.assertIs(one <= other, set(shuts) <= set(others))
                self.assertIs(one == other, shuts == others)
                self.assertIs(one != other, shuts != others)
                self.assertTrue((one & other) <= one <= (one | other))
            self.assert_shuts(one, program, shuts)

    def test_others_that_are_none(self):
        one = Shuts(PROGRAM, GIVEN[:1])
        for thing in ODD + (GIVEN, GIVEN[:1], Shuts(SAFE, GIVEN[:1]), Shuts(LATE), Program(*PROGRAM), object()):
            self.assert_error(NotUsable, {"word": "other", "at": -1}, lambda: one | thing)
            self.assert_error(NotUsable, {"word": "other", "at": -1}, lambda: one & thing)
            self.assert_error(NotUsable, {"word": "other", "at": -1}, lambda: one <= thing)
            self.assertIs(one == thing, False)
            self.assertIs(one != thing, True)
        equal = copy.deepcopy(PROGRAM)
        self.assertIs(one == Shuts(equal, GIVEN[:1]), True)
        self.assertIs(one <= Shuts(equal, GIVEN), True)

    def test_refusals(self):
        self.assert_order(NotUsable, lambda program, shuts: str(Shuts(program, shuts)), {"program": PROGRAM, "shuts": GIVEN},
                          {"program": NO_PROGRAMS, "shuts": NO_SHUTS})

    def test_nothing_changes_them(self):
        one, other = Shuts(THREE, tuple(all_shuts(THREE)[:2])), Shuts(THREE, tuple(all_shuts(THREE)[1:4]))
        shuts = one.shuts_now
        for _ in range(2):
            one + all_shuts(THREE)[5]
            one - shuts[0]
            one | other
            one & other
            one.spares()
            list(one.least_within())
            str(one)
            self.assert_shuts(one, THREE, shuts)
            kept = one
            kept += all_shuts(THREE)[5]
            self.assertEqual((len(kept), len(one)), (3, 2))
        for name in ("program_now", "shuts_now", "shut_now", "ways_now", "harms_now"):
            with self.assertRaises(AttributeError):
                setattr(one, name, ())


class Consequences(Case):
    def test_one_program_however_they_come(self):
        # At once, one by one in any order, by objects, and by put_in from behind.
        rng = random.Random(516)
        for program, shuts in programs_with_shuts(516, 20):
            wanted = shut(program, shuts)
            mixed = rng.sample(shuts, len(shuts))
            one, changed = Shuts(program), program
            for part in mixed:
                one = one + part
            half = len(mixed) // 2
            parts = [Shuts(program, tuple(sorted(part))) for part in (mixed[:half], mixed[half:])]
            for name, place, word in shuts[::-1]:
                changed = put_in(changed, name, place, (word, "w"))
            for found in (one.shut_now, (parts[0] | parts[1]).shut_now, (parts[1] | parts[0]).shut_now, changed):
                self.assert_same(found, wanted)

    def test_more_shuts_gain_no_way(self):
        rng = random.Random(517)
        for program, shuts in programs_with_shuts(517, 20):
            one, other = Shuts(program, shuts), Shuts(program, drawn_shuts(rng, program))
            self.assertLessEqual(set((one | other).ways_now), set(one.ways_now) & set(other.ways_now))
            self.assertLessEqual(set((one | other).harms_now) - set(one.harms_now), {"deaf", "mute", "kept"})
            self.assertLessEqual(set(one.ways_now) | set(other.ways_now), set((one & other).ways_now))


if __name__ == "__main__":
    unittest.main()
