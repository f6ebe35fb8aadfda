"""Closings and marks put in, least and greatest sets of them (points 5, 8, 15, 43, 48, 49 and 52)."""

import random
import unittest

from keptends.errors import NotUsable
from keptends.hangs import ways_of
from keptends.harms import harms_of
from keptends.kinds import WAYS
from keptends.programchanges import put_in
from keptends.programchecker import lets_program
from keptends.programparts import births_in, names_in
from keptends.shuttings import greatest_shuts, least_shuts, shut
from tests.checks import Case
from tests.fatesamples import BOTH, SAFE
from tests.harmsamples import wide
from tests.runsamples import NO_PROGRAMS
from tests.samples import PROGRAM
from tests.shutoracle import least_and_greatest, put_together, sets_of, ways_by
from tests.shutsamples import ALL_WAYS, GIVEN, NO_SHUTS, NO_WAYS, THREE, TWO_MARKS, all_shuts, drawn_shuts, programs_with_shuts


class PutIn(Case):
    def test_the_examples(self):
        self.assert_same([least_shuts(PROGRAM, GIVEN), greatest_shuts(PROGRAM, GIVEN)],
                         [((("kid", 0, "mark"),), (("main", 0, "mark"),)), ((("kid", 1, "close"),),)])
        self.assert_same(
            [shut(PROGRAM, GIVEN[:1]) == SAFE, least_shuts(SAFE, GIVEN), greatest_shuts(SAFE, GIVEN), harms_of(shut(PROGRAM, GIVEN[1:2]))],
            [True, ((),), (), ("kept", "mute", "stays")])

    def test_by_hand(self):
        one = (BOTH, (("a", (("go", (0, 1)), ("go", (0, 1, 2)), ("end",)), (("copy", "a"),)),))
        both = (("a", 1, "close"), ("a", 1, "mark"))
        self.assert_same(shut(one, both), (BOTH, (("a", (
            ("go", (0, 1)), ("close", "w", 2), ("mark", "w", 3), ("go", (0, 1, 4)), ("end",)), (("copy", "a"),)),)))
        self.assert_same(shut(one, (("a", 0, "mark"), ("a", 2, "close"))), (BOTH, (("a", (
            ("mark", "w", 1), ("go", (0, 2)), ("go", (0, 2, 3)), ("close", "w", 4), ("end",)), (("copy", "a"),)),)))
        stays = (BOTH, (("a", (("stay",),), ()), ("b", (("read", 0),), ())))
        self.assert_same(shut(stays, (("a", 0, "close"), ("b", 0, "close"), ("b", 0, "mark"))), (BOTH, (
            ("a", (("close", "w", 1), ("stay",)), ()), ("b", (("close", "w", 1), ("mark", "w", 2), ("read", 0)), ()))))
        self.assert_same(shut(PROGRAM, ()), PROGRAM)

    def test_drawn_sets(self):
        both = 0
        for program, shuts in programs_with_shuts(481, 60, 9):
            before = repr((program, shuts))
            found = shut(program, shuts)
            self.assert_same(found, put_together(program, shuts), (program, shuts))
            self.assert_same(shut(shuts=shuts, program=program), found)
            self.assertEqual(repr((program, shuts)), before)
            both += len({one[:2] for one in shuts}) < len(shuts)
            # Nothing but places, and so no begin, no births and no asides, changes.
            self.assertEqual(lets_program(found), lets_program(program))
            self.assert_same(found[0], program[0])
            for name in names_in(program):
                self.assert_same(births_in(found, name), births_in(program, name))
        self.assertGreater(both, 60)

    def test_all_shuts_at_once(self):
        for program, _ in programs_with_shuts(482, 5):
            self.assert_same(shut(program, tuple(all_shuts(program))), put_together(program, all_shuts(program)))

    def test_one_by_one_from_behind(self):
        for program, shuts in programs_with_shuts(483, 30):
            changed = program
            for name, place, word in reversed(shuts):
                changed = put_in(changed, name, place, (word, "w"))
            self.assert_same(shut(program, shuts), changed)

    def test_roles_in_any_order(self):
        # Shuts of different roles come one after the other, whichever is first.
        rng = random.Random(484)
        for program, shuts in programs_with_shuts(484, 20):
            names = sorted({one[0] for one in shuts})
            rng.shuffle(names)
            changed = program
            for name in names:
                changed = shut(changed, tuple(one for one in shuts if one[0] == name))
            self.assert_same(changed, shut(program, shuts))


class LeastAndGreatest(Case):
    def assert_sets(self, program, shuts, ways):
        before = repr((program, shuts, ways))
        least, greatest = least_and_greatest(program, shuts, ways)
        self.assert_same(least_shuts(program, shuts, ways=ways), least, (program, shuts, ways))
        self.assert_same(least_shuts(ways=ways, shuts=shuts, program=program), least)
        self.assert_same(greatest_shuts(program, shuts, ways=ways), greatest, (program, shuts, ways))
        self.assert_same(greatest_shuts(ways=ways, shuts=shuts, program=program), greatest)
        self.assertEqual(repr((program, shuts, ways)), before)
        return least, greatest

    def test_by_hand(self):
        shuts = (("a", 0, "close"), ("a", 2, "close"), ("b", 1, "close"))
        self.assert_same(ways_of(THREE), ("joins", "own", "stays"))
        self.assert_same(least_shuts(THREE, shuts), ((("a", 0, "close"),), (("a", 2, "close"), ("b", 1, "close"))))
        self.assert_same(least_shuts(THREE, shuts, ways=("stays",)), ((("a", 0, "close"),), (("b", 1, "close"),)))
        self.assert_same(least_shuts(THREE, shuts, ways=("own", "joins")), ((("a", 0, "close"),), (("a", 2, "close"),)))
        self.assert_same(greatest_shuts(THREE, shuts), ((("a", 2, "close"),), (("b", 1, "close"),)))
        self.assert_same(greatest_shuts(THREE, ()), ((),))
        self.assert_same(least_shuts(THREE, ()), ())
        for ways in ALL_WAYS:
            self.assert_sets(THREE, shuts, ways)
        # Marks are needed ahead of all births by start, the asides among them.
        marks = (("main", 0, "mark"), ("main", 1, "mark"), ("main", 2, "mark"))
        self.assert_same(least_shuts(TWO_MARKS, marks), ())
        self.assert_same(greatest_shuts(TWO_MARKS, marks), (marks,))

    def test_against_all_sets(self):
        rng = random.Random(491)
        seen = set()
        for program, shuts in programs_with_shuts(491, 16, 5):
            least, greatest = self.assert_sets(program, shuts, rng.choice(ALL_WAYS[4:]))
            seen.add((min(len(least), 3), max([len(some) for some in least], default=-1)))
            self.assert_same((least_shuts(program, shuts), greatest_shuts(program=program, shuts=shuts)),
                             least_and_greatest(program, shuts, WAYS))
        self.assertLessEqual({(0, -1), (1, 0), (1, 1), (2, 1)}, seen)

    def test_six_shuts_and_all_ways(self):
        rng = random.Random(492)
        programs = [pair[0] for pair in programs_with_shuts(492, 1)]
        for program in programs:
            shuts = tuple(sorted(rng.sample(all_shuts(program), min(6, len(all_shuts(program))))))
            for ways in rng.sample(ALL_WAYS, 3) + [(), WAYS]:
                self.assert_sets(program, shuts, ways)

    def test_five_roles_of_eight_places(self):
        for closing in (True, False):
            program = wide(5, closing)
            shuts = (("a", 0, "mark"), ("b", 0, "close"), ("b", 3, "mark"), ("c", 1, "close"), ("d", 1, "mark"), ("e", 4, "close"))
            self.assert_sets(program, shuts, WAYS)

    def test_in_any_order_none_and_all(self):
        for program, shuts in programs_with_shuts(493, 3):
            self.assert_same((least_shuts(program, shuts, ways=()), greatest_shuts(program, shuts, ways=())), (((),), ()))
            for ways in ALL_WAYS:
                self.assert_same(least_shuts(program, shuts, ways=ways), least_shuts(program, shuts, ways=tuple(sorted(ways))))
                self.assert_same(greatest_shuts(program, shuts, ways=ways), greatest_shuts(program, shuts, ways=ways[::-1]))

    def test_not_usable(self):
        self.assert_order(NotUsable, shut, {"program": PROGRAM, "shuts": GIVEN}, {"program": NO_PROGRAMS, "shuts": NO_SHUTS})
        for function in (least_shuts, greatest_shuts):
            self.assert_order(NotUsable, function, {"program": PROGRAM, "shuts": GIVEN, "ways": ("joins", "own")},
                              {"program": NO_PROGRAMS, "shuts": NO_SHUTS, "ways": NO_WAYS}, ("ways",))
            with self.assertRaises(TypeError):
                function(PROGRAM, GIVEN, WAYS)


class Consequences(Case):
    def test_ways_only_fall_with_more_shuts(self):
        rng = random.Random(52)
        fell = 0
        for program, _ in programs_with_shuts(52, 30):
            shuts = ()
            ways = set(ways_of(program))
            for one in rng.sample(all_shuts(program), min(6, len(all_shuts(program)))):
                shuts = tuple(sorted(shuts + (one,)))
                less = set(ways_of(shut(program, shuts)))
                self.assertLessEqual(less, ways, (program, shuts))
                fell += less != ways
                ways = less
            self.assertEqual(ways, ways_by(put_together(program, shuts)))
        self.assertGreater(fell, 30)

    def test_each_set_includes_a_least_one_or_lies_in_a_greatest_one(self):
        for program, shuts in programs_with_shuts(521, 8, 5):
            least, greatest = least_shuts(program, shuts), greatest_shuts(program, shuts)
            for some in sets_of(shuts):
                includes = any(set(one) <= set(some) for one in least)
                lies = any(set(some) <= set(one) for one in greatest)
                self.assertNotEqual(includes, lies)
                self.assertEqual(includes, ways_of(shut(program, some)) == ())

    def test_other_harms_can_come_with_them(self):
        rng = random.Random(522)
        came = set()
        for program, _ in programs_with_shuts(522, 40):
            came |= set(harms_of(shut(program, drawn_shuts(rng, program)))) - set(harms_of(program))
        self.assertLessEqual(came, {"deaf", "mute", "kept"})
        self.assertIn("mute", came)
        for last, harm in ((("write", 2), "mute"), (("stay",), "kept"), (("close", "r", 2), "deaf")):
            program = (BOTH, (("a", (("read", 1), last, ("read", 3), ("end",)), ()),))
            self.assert_same(harms_of(program), ("own",))
            self.assert_same(harms_of(shut(program, (("a", 0, "close"),))), (harm,))


if __name__ == "__main__":
    unittest.main()
