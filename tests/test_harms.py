"""Harms, for all numbers of processes (points 4 to 6, 8, 43, 45, 46, 47 and 56)."""

import itertools
import random
import unittest

from keptends.errors import NotUsable
from keptends.hangings import first_shown, harms_shown
from keptends.hangs import ways_of
from keptends.harmchecker import lets_harm
from keptends.harms import ends_told, harm_run, harms_of, is_harmless
from keptends.kinds import HARMS, WAYS
from keptends.programchanges import renamed, with_begin, with_births, with_role
from tests.checks import Case
from tests.fateoracle import all_by, fates_by, first_of, has_way
from tests.fatesamples import BOTH, FEW_PROGRAMS, NEVER, SAFE, SELF, many_programs, small_families
from tests.harmoracle import seen_in_runs, told_for_all
from tests.harmsamples import TOLD, UNHEARD, many_few_runs, many_rounds, wide
from tests.oracle import World, random_run, shown_first
from tests.runsamples import NO_PROGRAMS
from tests.samples import BREED, CHOICE, JOINS, LATE, ODD, PROGRAM, PROGRAMS, RUN, SERVER

NO_HARM = [thing for thing in ODD if thing not in HARMS] + ["Kept", "hangs", ("kept",), ["kept"], HARMS, "stuck"]
NO_HARMS = [thing for thing in ODD if thing != ()] + [
    ("kept", "kept"), ["kept"], ("kept", "Kept"), "kept", ("kept", None), HARMS + ("own",), ("kept", ("own",)), (["kept"],)]


def alone(*places, begin=BOTH, others=(), asides=()):
    """A program whose first role has these places."""
    return (begin, (("a", places, asides),) + others)


def step_ahead(world):
    """The reads at which a process with r could go on now."""
    return {(one.role[0], one.place) for one in world.processes
            if one.is_at("read") and one.has("r") and world.fault((one.number, "read", -1)) is None}


class Harms(Case):
    def assert_harms(self, program, harms, reads):
        """All functions tell these harms and reads; the runs show the harms."""
        before = repr(program)
        self.assert_same(harms_of(program), harms, program)
        self.assert_same(harms_of(program=program), harms)
        self.assert_same(ends_told(program), reads, program)
        self.assert_same(ends_told(program=program), reads)
        for harm in HARMS:
            self.assert_run(program, harm, harm in harms)
        self.assertEqual(repr(program), before)

    def assert_run(self, program, harm, can_happen):
        """harm_run returns a run that shows the harm, or None if it cannot happen."""
        run = harm_run(program, harm)
        self.assert_same(harm_run(harm=harm, program=program), run)
        if not can_happen:
            self.assertIsNone(run)
            return ()
        self.assertIs(type(run), tuple)
        world = World(program)
        for step in run:
            self.assertIsNone(world.fault(step), (program, harm, run))
            world.do(step)
        first = shown_first(program, run).get(harm)
        self.assertIsNotNone(first, (program, harm, run))
        self.assert_same(lets_harm(program, harm, run), first)
        return run

    def test_the_examples(self):
        self.assert_same([harms_of(PROGRAM), harms_of(SAFE), harms_of(LATE), is_harmless(LATE, harms=WAYS)],
                         [("kept", "stays"), ("kept",), ("mute",), True])
        self.assert_same([ends_told(PROGRAM), ends_told(SAFE), ends_told(LATE), harm_run(SAFE, "stays")],
                         [(), (("main", 2),), (("kid", 1),), None])
        self.assert_same([lets_harm(PROGRAM, "kept", RUN), lets_harm(LATE, "mute", harm_run(LATE, "mute"))], [2, 7])

    def test_one_process_by_hand(self):
        for program, harms, reads in (
                (alone(("end",)), (), ()),
                (alone(("stay",)), ("kept",), ()),
                (alone(("close", "r", 1), ("stay",)), ("kept",), ()),
                (alone(("close", "r", 1), ("close", "w", 2), ("stay",)), (), ()),
                (alone(("read", 0)), ("own",), ()),
                (alone(("close", "w", 1), ("read", 2), ("end",)), (), (("a", 1),)),
                (alone(("close", "r", 1), ("read", 2), ("end",)), ("deaf",), ()),
                (alone(("close", "w", 1), ("read", 2), ("close", "r", 3), ("read", 3)), ("deaf",), (("a", 1),)),
                (alone(("write", 1), ("end",)), (), ()),
                (alone(("close", "w", 1), ("write", 2), ("end",)), ("mute",), ()),
                (alone(("close", "r", 1), ("write", 2), ("end",)), ("unheard",), ()),
                (alone(("close", "w", 1), ("close", "r", 2), ("write", 3), ("end",)), ("mute",), ()),
                (alone(("close", "w", 1), ("read", 2), ("write", 3), ("end",)), ("mute",), (("a", 1),)),
                (alone(("close", "w", 1), ("read", 2), ("stay",)), ("kept",), (("a", 1),)),
                (alone(("close", "w", 1), ("read", 2), ("close", "r", 3), ("stay",)), (), (("a", 1),)),
                (alone(("mark", "r", 1), ("mark", "w", 2), ("stay",)), ("kept",), ()),
                (alone(("go", (0, 1, 2)), ("stay",), ("read", 2)), ("kept", "own"), ())):
            self.assert_harms(program, harms, reads)

    def test_what_others_hold_by_hand(self):
        reader = ("r", (("close", "w", 1), ("read", 2), ("end",)), ())
        closed = ("c", (("close", "w", 1), ("close", "r", 2), ("end",)), ())
        kept = ("k", (("close", "w", 1), ("stay",)), ())
        # A write with w is unheard just if no other process holds r, elders and all that came of them among these.
        writer = (("copy", "w", 1), ("close", "r", 2), ("close", "w", 3), ("end",))
        writes = ("w", (("close", "r", 1), ("write", 2), ("end",)), ())
        self.assert_harms(alone(*writer, others=(writes,)), ("unheard",), ())
        self.assert_harms(alone(("copy", "w", 1), ("close", "w", 2), ("wait", 3), ("end",), others=(writes,)), (), ())
        two = (("copy", "k", 1), ("close", "r", 2), ("write", 3), ("close", "w", 4), ("end",))
        self.assert_harms(alone(*two, others=(kept,)), ("kept",), ())
        two = (("copy", "c", 1), ("close", "r", 2), ("write", 3), ("end",))
        self.assert_harms(alone(*two, others=(closed,)), ("unheard",), ())
        # One that waits for the writer still holds r, unless it closed it.
        below = (("copy", "w", 1), ("wait", 2), ("end",))
        self.assert_harms(alone(*below, others=(writes,)), (), ())
        below = (("copy", "w", 1), ("close", "r", 2), ("wait", 3), ("end",))
        self.assert_harms(alone(*below, others=(writes,)), ("unheard",), ())
        # Behind its wait the reader has ended; ahead of it, it waits while the elder holds w.
        early = (("copy", "r", 1), ("wait", 2), ("close", "w", 3), ("write", 4), ("end",))
        self.assert_harms(alone(*early, others=(reader,)), ("joins",), ())
        late = (("copy", "r", 1), ("close", "w", 2), ("wait", 3), ("write", 4), ("end",))
        self.assert_harms(alone(*late, others=(reader,)), ("mute",), (("r", 1),))
        # One that stays is never waited for, neither early nor late.
        late = (("copy", "k", 1), ("close", "w", 2), ("wait", 3), ("write", 4), ("end",))
        self.assert_harms(alone(*late, others=(kept,)), ("kept",), ())

    def test_late_births_by_hand(self):
        self.assert_harms(TOLD, ("deaf", "mute"), (("a", 3), ("b", 1)))
        # What is born late is waited for just if it can end.
        stays = ("c", (("go", (1, 2)), ("stay",), ("read", 3), ("end",)), ())
        program = (BOTH, TOLD[1][:2] + (stays,))
        self.assert_harms(program, ("kept", "mute"), (("a", 3), ("b", 1), ("c", 2)))
        stays = ("c", (("close", "r", 1), ("stay",)), ())
        self.assert_harms((BOTH, TOLD[1][:2] + (stays,)), (), (("b", 1),))
        # A child that is born by start has an end that is not marked alone.
        for word, harms, reads in (("copy", ("kept",), (("a", 2), ("c", 0))), ("start", ("deaf",), (("a", 2),))):
            roles = (("a", (("mark", "r", 1), ("close", "w", 2), ("read", 3), (word, "c", 4), ("close", "r", 5), ("end",)), ()),
                     ("c", (("read", 1), ("stay",)), ()))
            self.assert_harms((BOTH, roles), harms, reads)

    def test_elders_that_wait_for_what_they_bore(self):
        # The kid goes on late just if its elder closed w without a wait behind its birth.
        kid = ("k", (("close", "w", 1), ("read", 2), ("write", 3), ("end",)), ())
        none = ("n", (("end",),), ())
        for places, harms, reads in (
                ((("copy", "k", 1), ("wait", 2), ("close", "w", 3), ("end",)), ("joins",), ()),
                ((("copy", "k", 1), ("close", "w", 2), ("wait", 3), ("end",)), ("mute",), (("k", 1),)),
                ((("copy", "n", 1), ("wait", 2), ("copy", "k", 3), ("end",)), ("mute",), (("k", 1),)),
                ((("copy", "k", 1), ("copy", "n", 2), ("wait", 3), ("end",)), ("joins",), ()),
                ((("copy", "k", 1), ("go", (2, 3)), ("wait", 3), ("end",)), ("joins", "mute"), (("k", 1),))):
            self.assert_harms(alone(*places, others=(kid, none)), harms, reads)

    def test_late_children_that_end_or_not_by_hand(self):
        late = (("close", "w", 1), ("read", 2), ("copy", "c", 3), ("wait", 4), ("write", 5), ("end",))
        for places, harms in (
                # It can end by a choice, from its first place on, or not at all from there.
                ((("go", (1, 2)), ("stay",), ("close", "r", 3), ("end",)), ("kept", "mute")),
                ((("close", "r", 1), ("go", (2, 3)), ("stay",), ("end",)), ("mute",)),
                ((("close", "r", 2), ("end",), ("stay",)), ()),
                ((("close", "r", 1), ("stay",), ("end",)), ())):
            self.assert_harms(alone(*late, others=(("c", places, ()),)), harms, (("a", 1),))
        stays = ("c", (("close", "r", 1), ("stay",)), ())
        ends = ("n", (("end",),), ())
        # Where no wait comes, a child need not end; behind one it is born too late to be waited for.
        for places in ((("close", "w", 1), ("read", 2), ("copy", "c", 3), ("write", 4), ("end",)),
                       (("close", "w", 1), ("read", 2), ("copy", "n", 3), ("wait", 4), ("copy", "c", 5), ("write", 6), ("end",))):
            self.assert_harms(alone(*places, others=(stays, ends)), ("mute",), (("a", 1),))
        deaf = ("d", (("close", "r", 1), ("read", 2), ("wait", 3), ("end",)), ())
        places = (("close", "w", 1), ("read", 2), ("copy", "c", 3), ("copy", "d", 4), ("end",))
        self.assert_harms(alone(*places, others=(stays, deaf)), ("deaf",), (("a", 1),))

    def test_late_children_of_asides_by_hand(self):
        # Just what is born late, by an aside of one that was born so, reads without r.
        places = (("close", "w", 1), ("read", 2), ("close", "r", 3), ("end",))
        others = (("b", (("end",),), (("copy", "c"),)), ("c", (("close", "w", 1), ("read", 2), ("end",)), ()))
        program = alone(*places, others=others, asides=(("copy", "b"),))
        self.assert_harms(program, ("deaf",), (("a", 1), ("c", 1)))
        self.assertEqual(len([step for step in harm_run(program, "deaf") if step[1] == "aside"]), 2)

    def test_the_child_that_can_end_though_another_needs_less_by_hand(self):
        # To pass its late wait the first has to bear the one with a child of its own.
        places = (("go", (1, 2)), ("copy", "k", 3), ("copy", "c", 3), ("close", "w", 4), ("wait", 5), ("write", 6), ("end",))
        others = (("k", (("close", "r", 1), ("close", "w", 2), ("stay",)), ()),
                  ("c", (("copy", "d", 1), ("close", "w", 2), ("read", 3), ("end",)), ()),
                  ("d", (("close", "w", 1), ("read", 2), ("end",)), ()))
        self.assert_harms(alone(*places, others=others), ("mute",), (("c", 2), ("d", 1)))

    def test_the_one_that_writes_unheard_by_hand(self):
        # Another one is at a write, too, but without w.
        places = (("copy", "w", 1), ("close", "w", 2), ("close", "r", 3), ("write", 4), ("end",))
        writes = ("w", (("close", "r", 1), ("write", 2), ("end",)), ())
        self.assert_harms(alone(*places, others=(writes,)), ("mute", "unheard"), ())

    def test_births_without_end(self):
        self.assert_same([harms_of(program) for program in (SELF, NEVER, CHOICE)], [(), (), ("own",)])
        # Each lets one more be born, and the last one, or all, close w and read.
        more = (BOTH, (("a", (("go", (1, 2)), ("copy", "a", 2), ("close", "w", 3), ("read", 4), ("end",)), ()),))
        self.assert_harms(more, (), (("a", 3),))
        more = (BOTH, (("a", (("go", (1, 2)), ("copy", "a", 2), ("close", "w", 3), ("read", 4), ("close", "r", 5), ("read", 6), ("end",)), ()),))
        self.assert_harms(more, ("deaf",), (("a", 3),))
        self.assert_harms(BREED, ("deaf", "joins", "kept", "mute", "own", "stays"), ())
        # None ever lets go, since each bears one that has not yet.
        again = (BOTH, (("a", (("copy", "a", 1), ("close", "w", 2), ("read", 3), ("end",)), ()),))
        self.assert_harms(again, (), ())

    def test_by_all_runs(self):
        seen, told = set(), 0
        for program in many_few_runs(461, 420) + list(small_families(461, 120)) + [PROGRAM, SAFE, LATE, TOLD, UNHEARD]:
            harms, reads, whole = seen_in_runs(program)
            self.assertTrue(whole)
            self.assert_harms(program, harms, reads)
            seen |= set(itertools.product([True], harms)) | {(False, harm) for harm in HARMS if harm not in harms}
            told += reads != ()
        self.assertEqual(len(seen), 14)
        self.assertGreater(told, 60)

    def test_for_all_numbers_of_processes(self):
        seen, told = {}, 0
        for program in many_rounds(462, 200) + list(many_programs(462, 15)) + [wide(2)]:
            others, reads = told_for_all(program)
            fates = fates_by(program, first_of(program))
            ways = {way for way in WAYS if any(has_way(fate, way) for fate in fates)}
            self.assert_same(ways_of(program), tuple(sorted(ways)))
            harms = tuple(sorted(ways | set(others)))
            self.assert_harms(program, harms, reads)
            for harm in harms:
                seen[harm] = seen.get(harm, 0) + 1
            told += reads != ()
        self.assertGreater(min(seen.values()), 5)
        self.assertEqual(len(seen), 7)
        self.assertGreater(told, 30)

    def test_few_processes_show_no_more(self):
        for program in many_rounds(463, 60) + list(PROGRAMS):
            harms, reads, whole = seen_in_runs(program, 3, 1500)
            self.assertLessEqual(set(harms), set(harms_of(program)))
            self.assertLessEqual(set(reads), set(ends_told(program)))
            if whole:
                self.assert_same((harms_of(program), ends_told(program)), (harms, reads))

    def test_drawn_runs_show_no_more(self):
        rng = random.Random(464)
        shown, told = set(), 0
        for program in many_rounds(464, 80) + many_few_runs(464, 40) + list(FEW_PROGRAMS) + [TOLD] + 9 * [UNHEARD]:
            harms, reads = harms_of(program), ends_told(program)
            for _ in range(4):
                run = random_run(rng, program, rng.choice((3, 8, 16, 24)))
                self.assertLessEqual(set(harms_shown(program, run)), set(harms))
                shown |= set(harms_shown(program, run))
                world = World(program)
                for step in run:
                    told += bool(step_ahead(world))
                    self.assertLessEqual(step_ahead(world), set(reads))
                    world.do(step)
                for harm in HARMS:
                    first = first_shown(program, run, harm)
                    if first is not None:
                        self.assert_same(lets_harm(thing=run, harm=harm, program=program), first)
        self.assertEqual(shown, set(HARMS))
        self.assertGreater(told, 30)

    def test_runs_that_show_a_harm_late(self):
        # The harm comes behind a read that tells the end: among these runs there are some.
        late = dict.fromkeys(("deaf", "mute", "kept"), 0)
        for program in many_rounds(465, 200) + many_few_runs(465, 200):
            for harm in late:
                run = self.assert_run(program, harm, harm in harms_of(program))
                world = World(program)
                for step in run:
                    if step[1] == "read" and world.processes[step[0]].has("r"):
                        late[harm] += 1
                        break
                    world.do(step)
        self.assertGreater(min(late.values()), 1)

    def test_all_that_was_born_has_to_end_ahead_of_a_late_wait(self):
        # Children of both times, and children of theirs, end: some by births of their own.
        roles = (
            ("a", (("copy", "b", 1), ("copy", "b", 2), ("close", "w", 3), ("read", 4), ("copy", "c", 5), ("copy", "b", 6),
                   ("wait", 7), ("write", 8), ("end",)), ()),
            ("b", (("copy", "c", 1), ("close", "w", 2), ("read", 3), ("start", "c", 4), ("wait", 5), ("end",)), ()),
            ("c", (("go", (0, 1)), ("close", "w", 2), ("read", 3), ("end",)), ()))
        program = (BOTH, roles)
        self.assert_harms(program, ("mute",), (("a", 3), ("b", 2), ("c", 2)))
        self.assertEqual(len([step for step in harm_run(program, "mute") if step[1] == "end"]), 10)

    def test_is_harmless(self):
        rng = random.Random(466)
        seen = set()
        for program in many_rounds(466, 25) + list(FEW_PROGRAMS):
            harms = harms_of(program)
            for _ in range(6):
                drawn = tuple(rng.sample(HARMS, rng.randint(0, 7)))
                wanted = not set(drawn) & set(harms)
                self.assertIs(is_harmless(program, harms=drawn), wanted)
                self.assertIs(is_harmless(harms=drawn, program=program), wanted)
                seen.add((wanted, len(drawn) > 0))
            self.assertIs(is_harmless(program), harms == ())
            self.assertIs(is_harmless(program=program, harms=HARMS[::-1]), harms == ())
            self.assertIs(is_harmless(program, harms=()), True)
        self.assertEqual(seen, {(True, True), (False, True), (True, False)})

    def test_not_usable(self):
        for function in (harms_of, ends_told):
            self.assert_order(NotUsable, function, {"program": PROGRAM}, {"program": NO_PROGRAMS})
        self.assert_order(NotUsable, is_harmless, {"program": PROGRAM, "harms": ("kept", "own")},
                          {"program": NO_PROGRAMS, "harms": NO_HARMS}, ("harms",))
        self.assert_order(NotUsable, harm_run, {"program": PROGRAM, "harm": "kept"}, {"program": NO_PROGRAMS, "harm": NO_HARM})
        with self.assertRaises(TypeError):
            is_harmless(PROGRAM, ())

    def test_bounds(self):
        rng = random.Random(469)
        for closing in (True, False):
            for kids in range(6):
                program = wide(kids, closing)
                harms, reads = harms_of(program), ends_told(program)
                self.assertEqual(("mute" if closing else "own") in harms, kids > 0)
                self.assert_same(tuple(harm for harm in harms if harm not in WAYS), told_for_all(program)[0])
                for harm in HARMS:
                    self.assert_run(program, harm, harm in harms)
                run = random_run(rng, program, 60)
                self.assertLessEqual(set(harms_shown(program, run)), set(harms))
                world = World(program)
                for step in run:
                    self.assertLessEqual(step_ahead(world), set(reads))
                    world.do(step)


class Consequences(Case):
    def test_other_names_and_other_orders(self):
        rng = random.Random(56)
        for program in many_rounds(56, 25) + [PROGRAM, LATE, TOLD, JOINS]:
            old = rng.choice(program[1])[0]
            other = renamed(program, old, "other")
            self.assert_same((harms_of(other), ways_of(other)), (harms_of(program), ways_of(program)))
            self.assertEqual({(name if name != "other" else old, place) for name, place in ends_told(other)}, set(ends_told(program)))
            mixed = (program[0], program[1][:1] + tuple(rng.sample(program[1][1:], len(program[1]) - 1)))
            self.assert_same((harms_of(mixed), ends_told(mixed)), (harms_of(program), ends_told(program)))

    def test_roles_that_nothing_leads_to(self):
        spare = ("spare", (("copy", "spare", 1), ("read", 2), ("write", 3), ("stay",)), (("copy", "spare"),))
        for program in many_rounds(561, 25) + [PROGRAM, LATE, TOLD]:
            for at in (1, None):
                more = with_role(program, spare, at=at)
                self.assert_same((harms_of(more), ends_told(more)), (harms_of(program), ends_told(program)))
            first = with_role(program, ("spare", (("stay",),), ()), at=0)
            self.assert_same(harms_of(first), ("kept",))

    def test_less_held_hangs_no_more(self):
        # With w, or both ends, marked in the place of open no way of hanging comes.
        less = {BOTH: (("open", "marked"), ("marked", "marked")), ("marked", "open"): (("marked", "marked"),)}
        for program in many_rounds(451, 40) + many_few_runs(451, 60) + list(FEW_PROGRAMS):
            for begin, others in less.items():
                more = ways_of(with_begin(program, begin))
                for other in others:
                    self.assertLessEqual(set(ways_of(with_begin(program, other))), set(more))

    def test_started_with_all_marked(self):
        # No child holds an end, so none can hang but the first process by itself.
        for program in many_rounds(541, 40) + list(FEW_PROGRAMS):
            changed = with_births(with_begin(program, ("marked", "marked")), "start")
            for name, ends, _ in all_by(changed):
                self.assertTrue(name == changed[1][0][0] or ends == ("none", "none"))
            self.assertLessEqual(set(ways_of(changed)), {"own"})


if __name__ == "__main__":
    unittest.main()
