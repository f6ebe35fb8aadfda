"""Runs that hang, and harms (points 4, 5, 6, 8, 28 and 29)."""

import unittest

from keptends.errors import NotUsable
from keptends.hangings import first_shown, harms_shown, ways_at_end
from keptends.kinds import HARMS
from keptends.trees import is_at_rest, next_steps, waiting_in
from tests.checks import Case
from tests.oracle import World, shown_first
from tests.runsamples import FEW, NO_PROGRAMS, NO_RUNS, all_runs, beginnings, many_runs
from tests.samples import BREED, CHOICE, JOINS, LATE, ODD, PROGRAM, RUN, random_programs

BOTH = ("open", "open")
# Each harm alone, with a run that shows it by its last step, or () if at once.
ALONE = {
    "own": ((BOTH, (("a", (("mark", "r", 1), ("read", 2), ("end",)), ()),)), ((0, "mark", -1),)),
    "deaf": ((BOTH, (("a", (("close", "r", 1), ("read", 2), ("end",)), ()),)), ((0, "close", -1), (0, "read", -1))),
    "mute": ((BOTH, (("a", (("close", "w", 1), ("write", 2), ("end",)), ()),)), ((0, "close", -1), (0, "write", -1))),
    "unheard": ((BOTH, (("a", (("close", "r", 1), ("write", 2), ("end",)), ()),)), ((0, "close", -1), (0, "write", -1))),
    "kept": ((BOTH, (("a", (("close", "r", 1), ("stay",)), ()),)), ((0, "close", -1),)),
}
STAYS = (BOTH, (
    ("a", (("copy", "b", 1), ("close", "w", 2), ("read", 3), ("end",)), ()), ("b", (("close", "r", 1), ("stay",)), ())))
STAYS_RUN = ((0, "copy", -1), (0, "close", -1), (1, "close", -1))
# The parent waits, with w, for a child that waits at a read.
WAITS = (BOTH, (("a", (("copy", "b", 1), ("wait", 2), ("end",)), ()), ("b", (("close", "w", 1), ("read", 2), ("end",)), ())))
WAITS_RUN = ((0, "copy", -1), (1, "close", -1))


class Hangings(Case):
    def assert_shown(self, program, run):
        """All three functions tell what the second telling tells."""
        before = repr((program, run))
        ways, firsts = World(program, run).ways(), shown_first(program, run)
        self.assert_same(ways_at_end(program, run), ways)
        self.assert_same(ways_at_end(run=run, program=program), ways)
        self.assert_same(harms_shown(program, run), tuple(sorted(firsts)))
        self.assert_same(harms_shown(run=run, program=program), tuple(sorted(firsts)))
        for harm in HARMS:
            self.assert_same(first_shown(program, run, harm), firsts.get(harm))
            self.assert_same(first_shown(harm=harm, run=run, program=program), firsts.get(harm))
        self.assertEqual(repr((program, run)), before)

    def test_the_examples(self):
        self.assert_same(ways_at_end(PROGRAM, RUN), ("stays",))
        self.assert_same(harms_shown(PROGRAM, RUN), ("kept", "stays"))
        self.assert_same(first_shown(PROGRAM, RUN, "stays"), 3)
        self.assert_same(first_shown(PROGRAM, RUN, "kept"), 2)
        self.assert_same(ways_at_end(PROGRAM, RUN[:2]), ())
        self.assert_same(first_shown(PROGRAM, RUN, "deaf"), None)

    def test_each_harm_alone(self):
        for harm, (program, run) in ALONE.items():
            self.assert_same(harms_shown(program, run), (harm,))
            self.assert_same(harms_shown(program, run[:-1]), ())
            self.assert_same(first_shown(program, run, harm), len(run))
            self.assert_same(first_shown(program, run[:-1], harm), None)
            self.assert_same([first_shown(program, run, other) for other in HARMS if other != harm], [None] * 6)
            self.assert_same(ways_at_end(program, run), ("own",) if harm == "own" else ())

    def test_stays_by_hand(self):
        self.assert_same(ways_at_end(STAYS, STAYS_RUN), ("stays",))
        self.assert_same(ways_at_end(STAYS, STAYS_RUN[:2]), ())
        self.assert_same(harms_shown(STAYS, STAYS_RUN), ("kept", "stays"))
        # While none waits at a read, one that stays with w makes nobody hang.
        run = (STAYS_RUN[0], STAYS_RUN[2])
        self.assert_same(ways_at_end(STAYS, run), ())
        self.assert_same(harms_shown(STAYS, run), ("kept",))
        self.assert_same(first_shown(STAYS, run + (STAYS_RUN[1],), "stays"), 3)

    def test_one_that_stays_without_w_does_not_count(self):
        roles = (("a", (("copy", "b", 1), ("copy", "c", 2), ("close", "w", 3), ("read", 4), ("end",)), ()),
                 ("b", (("close", "w", 1), ("stay",)), ()), ("c", (("go", (0,)),), ()))
        run = ((0, "copy", -1), (1, "close", -1), (0, "copy", -1), (0, "close", -1))
        # The last one holds w, at a go: main waits, but not for ever by a way.
        self.assert_same(waiting_in((BOTH, roles), run), (0,))
        self.assert_same(ways_at_end((BOTH, roles), run), ())
        self.assert_same(harms_shown((BOTH, roles), run), ("kept",))

    def test_joins_by_hand(self):
        self.assert_same(ways_at_end(WAITS, WAITS_RUN), ("joins",))
        self.assert_same(waiting_in(WAITS, WAITS_RUN), (1,))
        self.assert_same(ways_at_end(WAITS, WAITS_RUN[:1]), ())
        self.assert_same(harms_shown(WAITS, WAITS_RUN), ("joins",))
        # Without w of its own the one that waits for its children is no way.
        closed = (BOTH, (("a", (("copy", "b", 1), ("close", "w", 2), ("wait", 3), ("end",)), ()),) + WAITS[1][1:])
        self.assert_same(harms_shown(closed, ((0, "copy", -1), (1, "close", -1), (0, "close", -1))), ())
        # Nor one at a wait that a stranger of its line waits beside.
        aside = (BOTH, (("a", (("copy", "b", 1), ("copy", "c", 2), ("end",)), ()), WAITS[1][1], ("c", (("wait", 0),), ())))
        run = ((0, "copy", -1), (0, "copy", -1), (1, "close", -1))
        self.assert_same(waiting_in(aside, run), (1,))
        self.assert_same(ways_at_end(aside, run), ())

    def test_joins_by_one_that_came_of_a_child(self):
        stays = ("c", (("close", "w", 1), ("close", "r", 2), ("stay",)), ())
        roles = (("a", (("copy", "b", 1), ("wait", 2), ("end",)), ()), ("b", (("copy", "c", 1), ("end",)), ()), stays)
        run = ((0, "copy", -1), (1, "copy", -1), (1, "end", -1), (2, "close", -1), (2, "close", -1))
        # None waits at a read yet, so nothing hangs.
        self.assert_same(harms_shown((BOTH, roles), run), ())
        reader = ("d", (("close", "w", 1), ("read", 1)), ())
        roles = (roles[0][:2] + ((("copy", "d"),),),) + roles[1:] + (reader,)
        run += ((0, "aside", 0), (3, "close", -1))
        self.assert_same(ways_at_end((BOTH, roles), run), ("joins",))
        # One that waits at a read without r is not stuck.
        deaf = ("d", (("close", "r", 1), ("read", 1)), ())
        roles = (roles[0], roles[1], ("c", (("end",),), ()), deaf)
        self.assert_same(harms_shown((BOTH, roles), ((0, "copy", -1), (0, "aside", 0), (2, "close", -1))), ())

    def assert_ways(self, roles, run, wanted):
        """Main waits at its read behind the run, and hangs in these ways."""
        program = (BOTH, roles)
        self.assertIn(0, waiting_in(program, run))
        self.assert_same(ways_at_end(program, run), wanted)
        self.assert_shown(program, run)

    def test_ways_while_another_process_waits(self):
        # Main reads; a child of it has a child of its own, or holds w, in several ways.
        main = ("main", (("copy", "child", 1), ("close", "w", 2), ("read", 3), ("end",)), ())
        last = (("go", (0,)),)
        wait = (("copy", "last", 1), ("wait", 2), ("end",))
        start = ((0, "copy", -1), (0, "close", -1), (1, "copy", -1))
        for places, more, wanted in (
                # With w of its own the one that joins hangs by a stay, and by a read with r.
                ((("close", "w", 1), ("stay",)), ((2, "close", -1),), ("joins",)),
                ((("close", "w", 1), ("close", "r", 2), ("stay",)), ((2, "close", -1),) * 2, ("joins",)),
                ((("close", "w", 1), ("read", 2), ("end",)), ((2, "close", -1),), ("joins",)),
                ((("close", "w", 1), ("close", "r", 2), ("read", 3), ("end",)), ((2, "close", -1),) * 2, ()),
                ((("close", "w", 1), ("wait", 2), ("end",)), ((2, "close", -1),), ()),
                ((("stay",),), (), ("joins", "stays")), ((("read", 0),), (), ("joins", "own")),
                ((("close", "r", 1), ("read", 1)), ((2, "close", -1),), ()), ((("wait", 0),), (), ()), (last, (), ())):
            self.assert_ways((main, ("child", wait, ()), ("last", places, ())), start + more, wanted)
        # Without w it does not join, whoever else holds w.
        closed = (("copy", "last", 1), ("close", "w", 2), ("wait", 3), ("end",))
        for places, wanted in (((("stay",),), ("stays",)), ((("read", 0),), ("own",)), (last, ())):
            self.assert_ways((main, ("child", closed, ()), ("last", places, ())), start + ((1, "close", -1),), wanted)
        two = (("copy", "last", 1), ("copy", "spin", 2)) + (("close", "w", 3), ("wait", 4), ("end",))
        spin = ("spin", last, ())
        keeper = ("last", (("close", "w", 1), ("stay",)), ())
        run = start + ((1, "copy", -1), (1, "close", -1), (2, "close", -1))
        self.assert_ways((main, ("child", two, ()), keeper, spin), run, ())

    def test_several_at_once(self):
        roles = (("a", (("copy", "b", 1), ("copy", "c", 2), ("wait", 3), ("end",)), ()),
                 ("b", (("read", 0),), ()), ("c", (("stay",),), ()))
        run = ((0, "copy", -1), (0, "copy", -1))
        self.assert_same(ways_at_end((BOTH, roles), run), ("joins", "own", "stays"))
        self.assert_same(harms_shown((BOTH, roles), run), ("joins", "kept", "own", "stays"))
        self.assert_same([first_shown((BOTH, roles), run, harm) for harm in HARMS], [1, 2, 2, None, None, None, 2])

    def test_writes_by_hand(self):
        # A write with w while another process holds r is heard.
        heard = (BOTH, (("a", (("copy", "b", 1), ("close", "r", 2), ("write", 3), ("end",)), ()), ("b", (("go", (0, 1)), ("end",)), ())))
        run = ((0, "copy", -1), (0, "close", -1), (0, "write", -1))
        self.assert_same(harms_shown(heard, run), ())
        late = run[:2] + ((1, "go", 1), (1, "end", -1), (0, "write", -1))
        self.assert_same(harms_shown(heard, late), ("unheard",))
        self.assert_same(first_shown(heard, late, "unheard"), 5)
        # Its own r counts as well.
        alone = (BOTH, (("a", (("write", 1), ("close", "r", 2), ("close", "w", 3), ("write", 3)), ()),))
        run = ((0, "write", -1), (0, "close", -1), (0, "close", -1), (0, "write", -1))
        self.assert_same(harms_shown(alone, run[:3]), ())
        # Without w it is mute, and not unheard.
        self.assert_same(harms_shown(alone, run), ("mute",))

    def test_harms_of_the_run_without_steps(self):
        self.assert_same(first_shown((BOTH, (("a", (("stay",),), ()),)), (), "kept"), 0)
        own = (BOTH, (("a", (("read", 0),), (("start", "a"),)),))
        self.assert_same(first_shown(own, (), "own"), 0)
        self.assert_same(first_shown(own, ((0, "aside", 0),) * 3, "own"), 0)
        self.assert_same(harms_shown(own, ()), ("own",))

    def test_a_harm_that_passes_by_is_shown(self):
        # A read without r is shown by all longer runs, and so is an end kept once.
        program, run = ALONE["deaf"]
        self.assert_same(first_shown(program, run + ((0, "end", -1),), "deaf"), 2)
        self.assert_same(ways_at_end(program, run + ((0, "end", -1),)), ())

    def test_each_beginning(self):
        for program, run in FEW + ((STAYS, STAYS_RUN), (WAITS, WAITS_RUN)) + tuple(ALONE.values()):
            for beginning in beginnings(run):
                self.assert_shown(program, beginning)
        for program, run in many_runs(28, each=6, programs=250):
            self.assert_shown(program, run)
            self.assert_shown(program, run[:-1])

    def test_all_short_runs(self):
        for program in (PROGRAM, LATE, CHOICE, JOINS) + tuple(random_programs(281, 25)):
            for length in range(3):
                for run in all_runs(program, length)[:60]:
                    self.assert_shown(program, run)

    def test_errors(self):
        for function in (ways_at_end, harms_shown):
            self.assert_order(NotUsable, function, {"program": PROGRAM, "run": RUN},
                              {"program": NO_PROGRAMS, "run": NO_RUNS})
        self.assert_order(
            NotUsable, first_shown, {"program": PROGRAM, "run": RUN, "harm": "own"},
            {"program": NO_PROGRAMS, "run": NO_RUNS,
             "harm": [thing for thing in ODD if thing not in HARMS] + ["Own", ["own"], ("own",), "hang"]})


class Laws(Case):
    def test_a_run_that_hangs_does_so_behind_all_further_steps(self):
        seen = set()
        for program, run in many_runs(81, each=8, programs=200):
            for k in range(len(run)):
                ways, waiting = ways_at_end(program, run[:k]), waiting_in(program, run[:k])
                if ways:
                    seen.update(ways)
                    self.assertLessEqual(set(ways), set(ways_at_end(program, run[:k + 1])))
                    self.assertLessEqual(set(waiting), set(waiting_in(program, run[:k + 1])))
        self.assertEqual(seen, {"own", "stays", "joins"})

    def test_each_step_behind_a_run_that_hangs(self):
        for program, run in many_runs(82, each=4):
            ways = set(ways_at_end(program, run))
            if ways:
                for step in next_steps(program, run):
                    self.assertLessEqual(ways, set(ways_at_end(program, run + (step,))))

    def test_at_rest_it_hangs_just_if_one_waits(self):
        seen = 0
        for program, run in many_runs(83, each=8, programs=200):
            for beginning in beginnings(run):
                waiting = waiting_in(program, beginning)
                if not waiting:
                    self.assert_same(ways_at_end(program, beginning), ())
                elif is_at_rest(program, beginning):
                    self.assertNotEqual(ways_at_end(program, beginning), ())
                    seen += 1
        self.assertGreater(seen, 50)

    def test_a_beginning_shows_no_more(self):
        for program, run in many_runs(84, each=2):
            shown = [set(harms_shown(program, beginning)) for beginning in beginnings(run)]
            for less, more in zip(shown, shown[1:]):
                self.assertLessEqual(less, more)

    def test_births_without_end(self):
        for program, run in [(program, run) for program, run in many_runs(85) if len(run) == 60]:
            self.assert_same(program, BREED)
            for beginning in beginnings(run)[::6]:
                self.assertEqual(ways_at_end(program, beginning), World(program, beginning).ways())


if __name__ == "__main__":
    unittest.main()
