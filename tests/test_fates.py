"""Fates (points 7, 34 to 36 and 40)."""

import random
import unittest

from keptends.errors import NotUsable
from keptends.fates import all_fates, fates_of, is_fate
from keptends.trees import came_of, tree_after
from tests import fateoracle
from tests.checks import Case
from tests.fateoracle import FORMS, PAIRS, all_by, crowd_of, early_crowds, fate_seen, fates_by, first_of
from tests.fatesamples import BOTH, CHAIN, FEW_PROGRAMS, NEVER, SELF, keys_of, many_programs
from tests.fatesamples import random_lines, small_families, without_births
from tests.oracle import World
from tests.samples import CHOICE, KID, LATE, MAIN, ODD, PROGRAM, SERVER, random_knots, random_programs, variants

ENDED = ("ended",)
NONE, STAYS = ("moment", False, False, False, False, False), ("moment", False, True, False, True, False)
WAITS = ("moment", True, True, False, False, False)
OWN = ("moment", True, True, True, False, False)


def early_run(rng, program, length):
    """An early run of so many steps, or fewer where no step is possible."""
    world = World(program)
    run = ()
    while len(run) < length:
        steps = [step for step in world.possible()
                 if step[1] != "read" or world.processes[step[0]].holds["r"] == "none"]
        if not steps:
            break
        run += (rng.choice(steps),)
        world.do(run[-1])
    return run


class Forms(Case):
    def test_there_are_fourteen(self):
        self.assertEqual(len(FORMS), 14)
        for fate in FORMS:
            self.assertIs(is_fate(fate), True)
            self.assertIs(is_fate(thing=fate), True)

    def test_all_moments(self):
        count = 0
        for k in range(32):
            waits, stuck, own, stays, joins = (bool(k >> n & 1) for n in range(5))
            fits = (waits or not own) and (stuck or not waits) and (stuck or not stays) and (stuck or not joins)
            count += not fits
            self.assertIs(is_fate(("moment", waits, stuck, own, stays, joins)), fits)
        self.assertEqual(count, 19)

    def test_by_hand(self):
        for odd in (("moment",), ("ended", True), ("ended", False), ("ended", "ended"), ("end",), ("Ended",), ["ended"], "ended",
                    ("moment", 0, 0, 0, 0, 0), ("moment", False, 1, False, False, False), list(NONE), NONE[1:], NONE[:-1],
                    NONE + (False,), (NONE,), ("moment", NONE[1:]), ("moment", None, False, False, False, False),
                    (("moment",), False, False, False, False, False), (["moment"],) + NONE[1:], (ENDED,), ((),), ([],)):
            self.assertIs(is_fate(odd), False)
        for odd in ODD + (object(), {}, b"", 1.5, NONE.__iter__()):
            self.assertIs(is_fate(odd), False)

    def test_one_change_at_any_depth(self):
        others = ODD + ("moment", "ended", ENDED, NONE, (True,), [True], (False,), "True", 2)
        for fate in FORMS:
            for thing in variants(fate, others):
                self.assertIs(is_fate(thing), repr(thing) in [repr(form) for form in FORMS], thing)
            for k in range(1, len(fate)):
                self.assertIs(is_fate(fate[:k] + (int(fate[k]),) + fate[k + 1:]), False)


class Fates(Case):
    def assert_fates(self, program, key):
        before = repr(program)
        wanted = fates_by(program, key)
        self.assert_same(fates_of(program, *key), wanted, (program, key))
        self.assert_same(fates_of(ends=key[1], name=key[0], program=program), wanted)
        self.assertEqual(repr(program), before)

    def test_the_examples(self):
        self.assertIs(fates_of(PROGRAM, "server", BOTH) == (STAYS,), True)
        self.assertIs(fates_of(PROGRAM, "kid", BOTH) == (NONE, STAYS), True)
        self.assert_same([entry[0] for entry in all_fates(PROGRAM)], ["kid", "main", "server"])
        self.assertIs(is_fate(("moment", False, True, True, False, False)), False)

    def test_by_hand(self):
        def alone(places, ends=BOTH, asides=()):
            return fates_of((BOTH, (("a", places, asides), ("b", (("end",),), ()), ("s", (("stay",),), ()))), "a", ends)
        self.assert_same(alone((("end",),)), (ENDED, NONE))
        self.assert_same(alone((("stay",),)), (STAYS,))
        self.assert_same(alone((("stay",),), ("open", "none")), (("moment", False, True, False, False, False),))
        self.assert_same(alone((("read", 1), ("end",))), (OWN,))
        self.assert_same(alone((("read", 1), ("end",)), ("marked", "none")), (WAITS,))
        self.assert_same(alone((("read", 1), ("end",)), ("none", "open")), (ENDED, NONE))
        self.assert_same(alone((("write", 0),), ("none", "none")), (NONE,))
        self.assert_same(alone((("close", "w", 1), ("read", 1))), (NONE, WAITS))
        self.assert_same(alone((("mark", "r", 1), ("close", "r", 2), ("read", 3), ("end",))), (ENDED, NONE))
        # A wait is passed at once without children, and only behind ones that have ended.
        self.assert_same(alone((("wait", 1), ("end",))), (ENDED, NONE))
        self.assert_same(alone((("copy", "b", 1), ("wait", 2), ("end",))), (ENDED, NONE))
        joins = ("moment", False, True, False, True, True)
        self.assert_same(alone((("copy", "s", 1), ("wait", 2), ("end",))), (NONE, joins))
        self.assert_same(alone((("copy", "s", 1), ("close", "w", 2), ("wait", 3), ("end",))), (NONE, STAYS))
        self.assert_same(alone((("copy", "s", 1), ("end",))), (NONE, STAYS))
        # By start the server is not handed what is marked.
        stuck = ("moment", False, True, False, False, False)
        self.assert_same(alone((("start", "s", 1), ("end",)), ("open", "marked")), (NONE, stuck))
        self.assert_same(alone((("end",),), BOTH, (("copy", "s"),)), (ENDED, NONE, STAYS))
        self.assert_same(alone((("copy", "s", 1), ("wait", 2), ("read", 2)), ("open", "none")), (NONE, stuck))

    def test_what_children_come_to_together(self):
        roles = (("a", (("copy", "b", 1), ("copy", "b", 2), ("end",)), ()),
                 ("b", (("go", (1, 2)), ("stay",), ("close", "w", 3), ("read", 3)), ()))
        together = ("moment", True, True, False, True, False)
        self.assert_same(fates_of((BOTH, roles), "b", BOTH), (NONE, STAYS, WAITS))
        self.assert_same(fates_of((BOTH, roles), "a", BOTH), (NONE, STAYS, WAITS, together))
        # One child alone does not come to both.
        single = (("a", (("copy", "b", 2), ("end",), ("end",)), ()), roles[1])
        self.assert_same(fates_of((BOTH, single), "a", BOTH), (NONE, STAYS, WAITS))

    def test_without_births(self):
        for program in without_births(35, 120):
            for key in keys_of(program):
                self.assert_fates(program, key)
                crowds, whole = early_crowds(program, key, 1)
                self.assertIs(whole, True)
                self.assert_same(fates_of(program, *key), tuple(sorted(set().union(*(
                    fate_seen(program, crowd) for crowd in crowds)))))
                for begin in PAIRS[4:6] + PAIRS[7:]:
                    self.assert_same(fates_of((begin, program[1]), *key), fates_of(program, *key))

    def test_all_roles_with_all_ends(self):
        for program in FEW_PROGRAMS + tuple(random_programs(351, 25)) + tuple(random_knots(351, 25)):
            for key in keys_of(program):
                self.assert_fates(program, key)
        for program in random_lines(351, 40):
            for key in keys_of(program):
                self.assert_fates(program, key)

    def test_roles_that_bear_themselves(self):
        self.assert_same(fates_of(SELF, "a", BOTH), (ENDED, NONE))
        self.assert_same(fates_of(NEVER, "a", BOTH), (NONE,))
        self.assert_same(fates_of((BOTH, (("a", (("copy", "a", 0),), ()),)), "a", BOTH), (NONE,))
        self.assert_same(fates_of((BOTH, (("a", (("stay",),), (("start", "a"),)),)), "a", ("marked", "marked")), (STAYS,))
        self.assert_same(fates_of(CHAIN, "d", ("none", "none")), (ENDED, NONE))

    def test_all_fates(self):
        for program in many_programs(352):
            before = repr(program)
            found = all_fates(program)
            self.assert_same(found, all_by(program))
            self.assert_same(all_fates(program=program), found)
            self.assertIn(first_of(program), [entry[:2] for entry in found])
            for name, ends, fates in found:
                self.assert_same(fates_of(program, name, ends), fates)
            self.assertEqual(repr(program), before)

    def test_entries_for_just_those_that_births_lead_to(self):
        self.assert_same([entry[:2] for entry in all_fates(PROGRAM)], [(name, BOTH) for name in ("kid", "main", "server")])
        self.assert_same([entry[:2] for entry in all_fates((("open", "marked"), PROGRAM[1]))], [
            ("kid", ("open", "marked")), ("main", ("open", "marked")), ("server", ("open", "none"))])
        # What stands behind a read with r, or behind a wait that none passes, is not born.
        for places in ((("read", 1), ("copy", "b", 2), ("end",)), (("copy", "c", 1), ("wait", 2), ("copy", "b", 3), ("end",))):
            program = (BOTH, (("a", places, ()), ("b", (("end",),), ()), ("c", (("stay",),), ())))
            self.assertNotIn("b", [entry[0] for entry in all_fates(program)])
            ends = (BOTH, (("a", places, ()), ("b", (("end",),), ()), ("c", (("end",),), ())))
            self.assertEqual("b" in [entry[0] for entry in all_fates(ends)], places[0][0] == "copy")

    def test_begin_means_nothing_for_fates_of(self):
        for program in FEW_PROGRAMS:
            for begin in (BOTH, ("open", "marked"), ("marked", "open"), ("marked", "marked")):
                for key in keys_of(program)[::2]:
                    self.assert_same(fates_of((begin, program[1]), *key), fates_of(program, *key))


class Seen(Case):
    """What early weavings show."""

    def test_weavings_of_at_most_three_processes(self):
        whole_ones, births = 0, 0
        for program in many_programs(38, 25) + tuple(small_families(38, 60)):
            for key in random.Random(len(program[1])).sample(keys_of(program), 5) + [first_of(program)]:
                crowds, whole = early_crowds(program, key, 3, 1500)
                seen = set().union(*(fate_seen(program, crowd) for crowd in crowds))
                fates = set(fates_of(program, *key))
                self.assertLessEqual(seen, fates)
                if whole:
                    self.assertEqual(seen, fates)
                    whole_ones += 1
                    births += max(len(crowd) for crowd in crowds) > 1
        self.assertGreater(whole_ones, 200)
        self.assertGreater(births, 60)

    def test_behind_early_runs(self):
        rng = random.Random(353)
        for program in many_programs(353, 40):
            table = {entry[:2]: entry[2] for entry in all_fates(program)}
            for length in (0, 3, 8, 20):
                run = early_run(rng, program, length)
                tree = tree_after(program, run)
                crowd = crowd_of(tree)
                ends = self.ends_at_birth(program, run)
                for process, row in enumerate(tree):
                    fates = table[row[0], ends[process]]
                    self.assertLessEqual(fate_seen(program, crowd, process), set(fates))
                    self.assert_same(list(came_of(program, run, process)), fateoracle.line(crowd, process))

    @staticmethod
    def ends_at_birth(program, run):
        """What each process held when it was born."""
        world = World(program)
        ends = [tuple(world.processes[0].holds.values())]
        for step in run:
            world.do(step)
            ends.extend(tuple(one.holds.values()) for one in world.processes[len(ends):])
        return ends


class Errors(Case):
    def test_not_usable(self):
        no_programs = [thing for thing in ODD if thing != PROGRAM] + [(BOTH, (MAIN, KID)), list(PROGRAM)]
        no_names = [thing for thing in ODD if thing != "kid"] + ["other", ("kid",), ["kid"], SERVER]
        no_ends = [thing for thing in ODD if thing != BOTH] + [("open",), ("open", "open", "open"), ("Open", "open"), ("r", "w")]
        self.assert_order(NotUsable, fates_of, {"program": PROGRAM, "name": "kid", "ends": BOTH},
                          {"program": no_programs, "name": no_names, "ends": no_ends})
        self.assert_order(NotUsable, all_fates, {"program": PROGRAM}, {"program": no_programs})
        for program in (LATE, CHOICE):
            self.assert_error(NotUsable, {"word": "name", "at": -1}, fates_of, program, "server", None)


if __name__ == "__main__":
    unittest.main()
