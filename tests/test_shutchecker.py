"""Papers of least sets of shuts, and their checker (points 26, 28, 36, 37, 43, 48 and 50)."""

import random
import unittest

from keptends.errors import InvalidPaper, NotUsable
from keptends.fates import all_fates
from keptends.hangings import ways_at_end
from keptends.hangs import hang_run, ways_of
from keptends.kinds import WAYS
from keptends.runs import after_step
from keptends.shutchecker import lets_shuts
from keptends.shutpapers import shut_paper
from keptends.shuttings import least_shuts, shut
from keptends.trees import next_steps
from tests.checks import Case, outcome, raised
from tests.fateoracle import has_way
from tests.fatesamples import SAFE, wide_list
from tests.runsamples import NO_PROGRAMS
from tests.samples import ODD, PROGRAM, RUN, variants
from tests.shutoracle import least_and_greatest, paper_fault, put_together
from tests.shutsamples import ALL_WAYS, GIVEN, NO_SHUTS, NO_WAYS, THREE, programs_with_shuts

PAPER = (GIVEN[:1], all_fates(SAFE), (RUN,))
SHUTS = (("a", 0, "close"), ("a", 2, "close"), ("b", 1, "close"))


class Papers(Case):
    def test_the_examples(self):
        self.assert_same(
            [lets_shuts(PROGRAM, GIVEN, PAPER), lets_shuts(PROGRAM, GIVEN, shut_paper(PROGRAM, GIVEN)),
             shut_paper(PROGRAM, GIVEN[1:2])], [1, 1, None])
        self.assert_error(InvalidPaper, {"word": "way", "at": 0}, lets_shuts, PROGRAM, GIVEN,
                          (GIVEN[:1], all_fates(SAFE), (RUN[:2],)))

    def assert_paper(self, program, shuts, ways):
        """A paper just if all shuts spare the ways, and one that is accepted, by both tellings."""
        before = repr((program, shuts, ways))
        paper = shut_paper(program, shuts, ways=ways)
        self.assert_same(shut_paper(ways=ways, shuts=shuts, program=program), paper)
        spared = not set(ways_of(put_together(program, shuts))) & set(ways)
        self.assertEqual(paper is not None, spared)
        if paper is not None:
            self.assertIs(type(paper), tuple)
            some, entries, runs = paper
            self.assertIsNone(paper_fault(program, shuts, paper, ways))
            self.assertIn(some, least_shuts(program, shuts, ways=ways))
            kept = repr(paper)
            self.assert_same(lets_shuts(program, shuts, paper, ways=ways), len(some))
            self.assert_same(lets_shuts(ways=ways, thing=paper, shuts=shuts, program=program), len(some))
            self.assertEqual(repr(paper), kept)
            for k, run in enumerate(runs):
                self.assertTrue(set(ways_at_end(put_together(program, some[:k] + some[k + 1:]), run)) & set(ways))
            first = [entry for entry in entries if entry[:2] == (program[1][0][0], program[0])]
            self.assertFalse(any(has_way(fate, way) for fate in first[0][2] for way in ways))
        self.assertEqual(repr((program, shuts, ways)), before)
        return paper

    def test_drawn_programs(self):
        rng = random.Random(501)
        seen = set()
        for program, shuts in programs_with_shuts(501, 30):
            for ways in (WAYS, rng.choice(ALL_WAYS)):
                paper = self.assert_paper(program, shuts, ways)
                seen.add(None if paper is None else len(paper[0]))
        self.assertLessEqual({None, 0, 1}, seen)

    def test_more_than_one_shut(self):
        for ways in ALL_WAYS:
            paper = self.assert_paper(THREE, SHUTS[1:], ways)
            self.assertEqual(paper[0], () if ways == () else SHUTS[1:] if len(set(ways) - {"own", "joins"}) and len(ways) > 1
                             else SHUTS[2:] if ways == ("stays",) else SHUTS[1:2])
        self.assert_same(lets_shuts(THREE, SHUTS, self.paper_of_two()), 2)

    @staticmethod
    def paper_of_two():
        """A paper of two shuts that are both needed."""
        runs = tuple(hang_run(shut(THREE, (one,)), way) for one, way in ((SHUTS[2], "own"), (SHUTS[1], "stays")))
        return (SHUTS[1:], all_fates(shut(THREE, SHUTS[1:])), runs)

    def test_all_least_sets_have_papers(self):
        for program, shuts in programs_with_shuts(502, 6, 4):
            for some in least_and_greatest(program, shuts, WAYS)[0]:
                runs = []
                for k in range(len(some)):
                    less = put_together(program, some[:k] + some[k + 1:])
                    runs.append(hang_run(less, ways_of(less)[0]))
                self.assert_same(lets_shuts(program, shuts, (some, all_fates(put_together(program, some)), tuple(runs))), len(some))

    def test_wider_lists_and_longer_runs(self):
        rng = random.Random(503)
        told = set()
        for _ in range(40):
            entries = wide_list(rng, SAFE, 1)
            run = RUN[:rng.randint(3, 6)]
            for step in next_steps(PROGRAM, run)[:1]:
                run = after_step(PROGRAM, run, step)
            told.add(self.assert_judged(PROGRAM, GIVEN, (GIVEN[:1], entries, (run,)), rng.choice(ALL_WAYS[4:])))
        self.assertLessEqual({None, ("list", -1)}, told)

    def assert_judged(self, program, shuts, thing, ways):
        """lets_shuts tells of any value what the second telling does."""
        before = repr((program, shuts, thing, ways))
        fault = paper_fault(program, shuts, thing, ways)
        found = outcome(lets_shuts, {"program": program, "shuts": shuts, "thing": thing, "ways": ways}, ("ways",))
        self.assert_same(found, ("value", len(thing[0])) if fault is None else raised("InvalidPaper", *fault), (thing, ways))
        self.assertEqual(repr((program, shuts, thing, ways)), before)
        return fault

    def test_papers_with_one_change(self):
        others = (None, True, 0, 1, "", "kid", "mark", (), [], ("kid", 0, "mark"), ("kid", False, "mark"), ("ended",), RUN[0], GIVEN)
        words = set()
        for thing in variants(PAPER, others):
            fault = self.assert_judged(PROGRAM, GIVEN, thing, WAYS)
            words.add(fault)
        self.assertLessEqual({None, ("shape", -1), ("shut", 0), ("shut", 1), ("list", -1), ("many", -1), ("run", 0), ("way", 0)}, words)

    def test_papers_of_two_with_one_change(self):
        rng = random.Random(504)
        words = set()
        every = list(variants(self.paper_of_two(), (None, True, 1, "a", (), [], ("a", 2, "close"), (0, "end", -1))))
        for thing in rng.sample(every, 500):
            words.add(self.assert_judged(THREE, SHUTS, thing, rng.choice(ALL_WAYS)))
        some, entries, runs = self.paper_of_two()
        for thing in ((some[::-1], entries, runs), (SHUTS, entries, runs), (some, entries, runs[::-1]), (some, entries, runs[:1]),
                      (some, entries, runs + runs), (some[:1], entries, runs), (some, all_fates(THREE), runs),
                      (some, entries, (runs[0], runs[1][:-1])), (some, entries, (runs[0], None)), (some, entries, ((), ())),
                      ((some[0], some[0]), entries, runs), ((some[0], None), entries, runs), ((None, some[0]), entries, runs),
                      ((), all_fates(THREE), ()), ((), entries, ()), (SHUTS[:1], all_fates(shut(THREE, SHUTS[:1])), ((),))):
            for ways in (WAYS, ("own",), ("stays", "joins"), ()):
                words.add(self.assert_judged(THREE, SHUTS, thing, ways))
        self.assertLessEqual({None, ("shape", -1), ("shut", 0), ("shut", 1), ("list", -1), ("many", -1), ("run", 0), ("run", 1),
                              ("way", 0), ("way", 1)}, words)

    def test_other_values(self):
        for thing in ODD + (b"", {}, object()):
            self.assert_error(InvalidPaper, {"word": "shape", "at": -1}, lets_shuts, PROGRAM, GIVEN, thing)
        for thing in ((GIVEN[:1], all_fates(SAFE)), PAPER + ((),), list(PAPER), (list(PAPER[0]),) + PAPER[1:],
                      PAPER[:1] + (list(PAPER[1]),) + PAPER[2:], PAPER[:2] + ([RUN],), (None,) + PAPER[1:]):
            self.assert_error(InvalidPaper, {"word": "shape", "at": -1}, lets_shuts, PROGRAM, GIVEN, thing)

    def test_the_first_fault_is_told(self):
        bad = {"shut": (("kid", 0, "open"),), "list": (), "runs": (None, None)}
        for some in (PAPER[0], bad["shut"]):
            for entries in (PAPER[1], bad["list"]):
                for runs in (PAPER[2], bad["runs"], (None,), (RUN[:1],)):
                    word = self.assert_judged(PROGRAM, GIVEN, (some, entries, runs), WAYS)
                    if some == bad["shut"]:
                        self.assertEqual(word, ("shut", 0))
                    elif entries == bad["list"]:
                        self.assertEqual(word, ("list", -1))
                    elif len(runs) > 1:
                        self.assertEqual(word, ("many", -1))

    def test_not_usable(self):
        values = {"program": PROGRAM, "shuts": GIVEN, "ways": ("stays", "own")}
        bad = {"program": NO_PROGRAMS, "shuts": NO_SHUTS, "ways": NO_WAYS}
        self.assert_order(NotUsable, shut_paper, values, bad, ("ways",))
        # Whatever the paper is, what cannot be used is told first.
        for paper in (PAPER, None, ((), (), (None,))):
            for word, others in bad.items():
                for odd in others[::5]:
                    changed = {**values, word: odd}
                    self.assert_error(NotUsable, {"word": word, "at": -1}, lets_shuts, changed["program"], changed["shuts"], paper,
                                      ways=changed["ways"])
        self.assert_order(NotUsable, lets_shuts, {"program": PROGRAM, "shuts": GIVEN, "thing": PAPER, "ways": ("stays", "own")},
                          bad, ("ways",))
        for function in (shut_paper, lets_shuts):
            with self.assertRaises(TypeError):
                function(PROGRAM, GIVEN, PAPER, WAYS)


if __name__ == "__main__":
    unittest.main()
