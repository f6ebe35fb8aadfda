"""Papers of one way of hanging (points 5, 34, 36, 38 and 39)."""

import copy
import random
import unittest

from keptends.errors import InvalidPaper, NotUsable
from keptends.fates import all_fates
from keptends.hangs import fewest_processes, hang_run, ways_of
from keptends.kinds import WAYS
from keptends.waychecker import lets_few, lets_way
from keptends.waypapers import few_paper, way_paper
from tests.checks import Case
from tests.fateoracle import FORMS, entries_fault, few_by, first_of, has_way, least_numbers, list_fault, numbers_by
from tests.fatesamples import BOTH, ROUND, SAFE, SELF, many_programs, small_families, wide_list
from tests.oracle import World
from tests.samples import BIG, BREED, KID, LATE, MAIN, ODD, PROGRAM, RUN, SERVER, variants
from tests.test_hangs import NO_WORDS, least_by
from tests.test_runchecker import run_fault

NO_PROGRAMS = [thing for thing in ODD if thing != PROGRAM] + [(BOTH, (MAIN, KID))]
ENDED, NONE = FORMS[:2]
STAYS = ("moment", False, True, False, True, False)


def run_paper_fault(program, way, run):
    """The fault of a run of a paper, or None."""
    if run_fault(program, run) is not None:
        return ("run", -1)
    return None if way in World(program, run).ways() else ("way", -1)


def way_fault(program, way, thing):
    """The fault that lets_way has to tell, or None."""
    if type(thing) is not tuple or len(thing) != 2 or thing[0] not in ("run", "fates"):
        return ("shape", -1)
    if thing[0] == "run":
        return run_paper_fault(program, way, thing[1])
    return list_fault(program, thing[1], (way,))


def few_fault(program, way, thing):
    """The fault that lets_few has to tell, or None."""
    if type(thing) is not tuple or len(thing) != 3 or thing[0] != "few" or type(thing[2]) is not tuple:
        return ("shape", -1)
    fault = run_paper_fault(program, way, thing[1]) or entries_fault(program, thing[2], True)
    if fault is not None:
        return fault
    entry = [entry for entry in thing[2] if entry[:2] == first_of(program)][0]
    least = min(number for fate, number in entry[2] if has_way(fate, way))
    return None if least == len(World(program, thing[1]).processes) else ("fewest", -1)


class Papers(Case):
    def assert_judged(self, checker, fault, accepted, program, way, thing):
        """The checker accepts, or tells the fault; by position and by name; the paper stays as it was."""
        before = copy.deepcopy(thing)
        if fault is None:
            self.assert_same(checker(program, way, thing), accepted)
            self.assert_same(checker(thing=thing, way=way, program=program), accepted)
        else:
            fields = {"word": fault[0], "at": fault[1]}
            self.assert_error(InvalidPaper, fields, checker, program, way, thing)
            self.assert_error(InvalidPaper, fields, checker, thing=thing, way=way, program=program)
        self.assert_same(thing, before)
        return fault

    def assert_way(self, program, way, thing):
        accepted = type(thing) is tuple and thing[:1] == ("run",)
        return self.assert_judged(lets_way, way_fault(program, way, thing), accepted, program, way, thing)

    def assert_few(self, program, way, thing):
        fault = few_fault(program, way, thing)
        return self.assert_judged(lets_few, fault, least_by(program, way) if fault is None else None, program, way, thing)

    def changed_runs(self, run, rng):
        """The run with one step left out, doubled, turned about, or changed, or one more."""
        steps = [(0, "aside", 0), (0, "end", -1), (1, "close", -1), (0, "stay", -1), None, [0, "end", -1]]
        found = [list(run), run + (rng.choice(steps),), None, run + ((0, "aside", 0),)]
        for k in range(len(run)):
            found += [run[:k], run[:k] + run[k + 1:], run[:k] + run[k:k + 1] + run[k:],
                      run[:k] + run[k + 1:k + 2] + run[k:k + 1] + run[k + 2:], run[:k] + (rng.choice(steps),) + run[k + 1:]]
        return found


class Ways(Papers):
    def test_the_examples(self):
        self.assert_same([lets_way(PROGRAM, "stays", ("run", RUN)), lets_way(PROGRAM, "own", way_paper(PROGRAM, "own"))],
                         [True, False])
        self.assert_error(InvalidPaper, {"word": "way", "at": -1}, lets_way, PROGRAM, "own", ("run", RUN))

    def test_way_paper_is_accepted(self):
        seen = set()
        for program in many_programs(391, 50) + tuple(small_families(391, 40)):
            before = repr(program)
            for way in WAYS:
                paper = way_paper(program, way)
                self.assert_same(way_paper(way=way, program=program), paper)
                hangs = way in ways_of(program)
                self.assertIs(lets_way(program, way, paper), hangs)
                self.assertEqual(paper[0], "run" if hangs else "fates")
                self.assertIsNone(self.assert_way(program, way, paper))
                seen.add((way, hangs))
            self.assertEqual(repr(program), before)
        self.assertEqual(len(seen), 6)

    def test_runs(self):
        rng = random.Random(392)
        seen = set()
        for program in (PROGRAM, LATE, BREED, ROUND) + tuple(small_families(392, 25)):
            for way in WAYS:
                runs = [run for run in [hang_run(program, way)] if run is not None] + [(), RUN]
                for run in runs:
                    for thing in self.changed_runs(run, rng) + [run]:
                        for other in WAYS:
                            seen.add(self.assert_way(program, other, ("run", thing)))
        self.assertEqual(seen, {None, ("run", -1), ("way", -1)})

    def test_longer_runs_that_hang(self):
        # Any run that hangs so at its end does, not just one with the fewest processes.
        for k in range(3, len(RUN) + 1):
            self.assertIsNone(self.assert_way(PROGRAM, "stays", ("run", RUN[:k])))
        self.assertEqual(self.assert_way(PROGRAM, "stays", ("run", RUN[:2])), ("way", -1))

    def test_lists(self):
        rng = random.Random(393)
        seen = set()
        for program in many_programs(393, 6):
            least = all_fates(program)
            lists = [least, least[::-1], least[1:], least[:-1], list(least), wide_list(rng, program), ()]
            k = rng.randrange(len(least))
            fates = least[k][2]
            lists += [least[:k] + (least[k][:2] + (other,),) + least[k + 1:]
                      for other in (fates[1:], fates[::-1], FORMS, tuple(sorted(set(fates) | {rng.choice(FORMS)})))]
            for thing in lists:
                for way in WAYS:
                    fault = self.assert_way(program, way, ("fates", thing))
                    seen.add(fault and fault[0])
        self.assertLessEqual({None, "way", "entry", "first", "birth", "fate", "shape"}, seen)

    def test_other_values(self):
        paper = way_paper(SELF, "own")
        for thing in ODD + (RUN, ("runs", RUN), ("run",), ("run", RUN, RUN), ["run", RUN], ("Fates", ()), ("few", RUN), paper[1], paper[::-1],
                            paper + paper, (paper,), ("fates", "run"), (("run",), RUN), (["run"], RUN), ("run", ["run"])):
            for program in (PROGRAM, SELF):
                self.assert_way(program, "own", thing)
                self.assert_way(program, "stays", thing)
                self.assert_way(program, "own", ("run", thing))
                self.assert_way(program, "own", ("fates", thing))
        for thing in variants(paper, ODD[::4] + ("run", "fates")):
            self.assert_way(SELF, "own", thing)


class Few(Papers):
    def test_the_examples(self):
        self.assert_same([lets_few(PROGRAM, "stays", few_paper(PROGRAM, "stays")), few_paper(SAFE, "stays")], [3, None])

    def test_few_paper_is_accepted(self):
        seen = set()
        for program in many_programs(394, 50) + tuple(small_families(394, 60)):
            before = repr(program)
            for way in WAYS:
                paper = few_paper(program, way)
                self.assert_same(few_paper(way=way, program=program), paper)
                fewest = fewest_processes(program, way)
                seen.add(fewest)
                if fewest is None:
                    self.assertIsNone(paper)
                else:
                    self.assert_same(lets_few(program, way, paper), fewest)
                    self.assertIsNone(self.assert_few(program, way, paper))
            self.assertEqual(repr(program), before)
        self.assertLessEqual({None, 1, 2, 3, 4}, seen)

    def papers(self, seed):
        """Triples of a program, a way and a whole paper, with the least numbers."""
        for program in (PROGRAM, ROUND) + many_programs(seed, 10)[11:] + tuple(small_families(seed, 25)):
            for way in ways_of(program):
                yield program, way, ("few", hang_run(program, way), few_by(program))

    def test_numbers(self):
        rng = random.Random(395)
        seen = set()
        for program, way, (word, run, entries) in self.papers(395):
            self.assertIsNone(self.assert_few(program, way, (word, run, entries)))
            ones = tuple(entry[:2] + (tuple((fate, 1) for fate, _ in entry[2]),) for entry in entries)
            seen.add(self.assert_few(program, way, (word, run, ones)))
            for k, (name, ends, numbers) in enumerate(entries):
                n = rng.randrange(len(numbers))
                fate, number = numbers[n]
                for other in (number - 1, number + 1, 1, BIG, 0, -1, True, None, "1", (number,)):
                    changed = numbers[:n] + ((fate, other),) + numbers[n + 1:]
                    fault = self.assert_few(program, way, (word, run, entries[:k] + ((name, ends, changed),) + entries[k + 1:]))
                    seen.add(fault and fault[0])
        self.assertLessEqual({None, "entry", "number", "fewest"}, seen)

    def test_numbers_by_hand(self):
        paper = few_paper(PROGRAM, "stays")
        kid, main, server = paper[2]
        self.assert_same(kid, ("kid", BOTH, ((NONE, 1), (STAYS, 2))))
        self.assert_same(server, ("server", BOTH, ((STAYS, 1),)))
        for entries, word, at in (
                ((kid, main, ("server", BOTH, ((STAYS, 2),))), "number", 2),
                ((("kid", BOTH, ((NONE, 1), (STAYS, 3))), main, server), "number", 0),
                ((("kid", BOTH, ((NONE, 2), (STAYS, 2))), main, server), "number", 0),
                ((("kid", BOTH, ((NONE, 1), (STAYS, 1))), main, server), "number", 1),
                ((("kid", BOTH, ((NONE, 1),)), main, server), "fate", 0),
                ((("kid", BOTH, ((STAYS, 2), (NONE, 1))), main, server), "entry", 0),
                ((("kid", BOTH, ((NONE, 1), (NONE, 1), (STAYS, 2))), main, server), "entry", 0),
                ((("kid", BOTH, (NONE, STAYS)), main, server), "entry", 0), ((("kid", BOTH, ()), main, server), "entry", 0),
                ((("kid", BOTH, ((NONE, 1, 1), (STAYS, 2))), main, server), "entry", 0),
                ((("kid", BOTH, ([NONE, 1], (STAYS, 2))), main, server), "entry", 0),
                ((main, server), "birth", 0), ((kid, server), "first", -1), ((kid, main), "birth", 0),
                ((kid, server, main), "entry", 2)):
            self.assertEqual(self.assert_few(PROGRAM, "stays", ("few", paper[1], entries)), (word, at))
        # All ones are closed and let, but tell of fewer processes than the run has.
        ones = tuple(entry[:2] + (tuple((fate, 1) for fate, _ in entry[2]),) for entry in paper[2])
        self.assertEqual(self.assert_few(PROGRAM, "stays", ("few", paper[1], ones)), ("fewest", -1))
        # Less than has to be for fates without the way is let.
        less = (("kid", BOTH, ((NONE, 1), (STAYS, 2))), main[:2] + (tuple(
            (fate, number if has_way(fate, "stays") else 1) for fate, number in main[2]),), server)
        self.assertIsNone(self.assert_few(PROGRAM, "stays", ("few", paper[1], less)))

    def test_a_fate_more(self):
        # A closed list with a fate more may need fewer, by paths that no run has.
        rng = random.Random(396)
        seen = set()
        for program, way, (word, run, entries) in self.papers(396):
            for _ in range(3):
                wide = wide_list(rng, program)
                table = {entry[:2]: dict.fromkeys(entry[2], 1) for entry in wide}
                more = True
                while more:
                    more = False
                    for key in table:
                        for fate, number in numbers_by(program, key, table)[0].items():
                            if table[key][fate] < number <= 30 and rng.random() < 0.8:
                                table[key][fate] = number
                                more = True
                numbered = tuple(key + (tuple(sorted(table[key].items())),) for key in sorted(table))
                fault = self.assert_few(program, way, (word, run, numbered))
                seen.add(fault and fault[0])
        self.assertLessEqual({None, "fewest"}, seen)

    def test_entries(self):
        rng = random.Random(397)
        seen = set()
        for program, way, (word, run, entries) in self.papers(397):
            changed = [entries[::-1], entries + entries[:1], entries[:1] + entries, (), list(entries), None, all_fates(program)]
            for k, entry in enumerate(entries):
                changed += [entries[:k] + entries[k + 1:], entries[:k] + (list(entry),) + entries[k + 1:],
                            entries[:k] + (entry[:2] + (entry[2][1:],),) + entries[k + 1:],
                            entries[:k] + (entry[:2] + (entry[2][::-1],),) + entries[k + 1:],
                            entries[:k] + (entry[:2] + (tuple(fate for fate, _ in entry[2]),),) + entries[k + 1:],
                            entries[:k] + (("nobody",) + entry[1:],) + entries[k + 1:]]
            for thing in rng.sample(changed, min(len(changed), 12)):
                fault = self.assert_few(program, way, (word, run, thing))
                seen.add(fault and fault[0])
        self.assertLessEqual({"shape", "entry", "first", "birth", "fate"}, seen)

    def test_runs(self):
        rng = random.Random(398)
        seen = set()
        for program, way, (word, run, entries) in self.papers(398):
            for thing in rng.sample(self.changed_runs(run, rng), 3) + [run + ((0, "aside", 0),), RUN, ()]:
                fault = self.assert_few(program, way, (word, thing, entries))
                seen.add(fault)
            for other in WAYS:
                seen.add(self.assert_few(program, other, (word, run, entries)))
        self.assertLessEqual({None, ("run", -1), ("way", -1), ("fewest", -1)}, seen)

    def test_other_values(self):
        paper = few_paper(PROGRAM, "stays")
        for thing in ODD + (paper[1:], paper[:2], paper + (None,), list(paper), ("Few",) + paper[1:], ("run",) + paper[1:],
                            (["few"],) + paper[1:], ("few", paper[2], paper[1]), paper[::-1], ("few", paper[1], list(paper[2])),
                            ("few", None, None), ("few", list(paper[1]), paper[2]), ("few", None, ())):
            self.assert_few(PROGRAM, "stays", thing)
        small = (BOTH, (("a", (("go", (0, 1)), ("stay",)), (("copy", "b"),)), ("b", (("close", "w", 1), ("read", 1)), ())))
        for thing in variants(few_paper(small, "stays"), ODD[::6] + (ENDED, NONE, 1, 2, (NONE, 1), "few")):
            self.assert_few(small, "stays", thing)

    def test_the_second_telling_is_used_rightly(self):
        self.assertEqual(least_numbers(PROGRAM, ("server", BOTH)), {("server", BOTH): {STAYS: 1}})
        self.assertIsNone(few_fault(PROGRAM, "stays", ("few", RUN, few_by(PROGRAM))))


class Errors(Case):
    def test_not_usable(self):
        bad = {"program": NO_PROGRAMS, "way": NO_WORDS}
        for function in (way_paper, few_paper):
            self.assert_order(NotUsable, function, {"program": PROGRAM, "way": "stays"}, bad)
        self.assert_order(NotUsable, lets_way, {"program": PROGRAM, "way": "stays", "thing": ("run", RUN)}, bad)
        self.assert_order(NotUsable, lets_few, {"program": PROGRAM, "way": "stays", "thing": few_paper(PROGRAM, "stays")}, bad)
        for function in (lets_way, lets_few):
            for thing in ODD[::3]:
                self.assert_error(NotUsable, {"word": "way", "at": -1}, function, PROGRAM, "stay", thing)
                self.assert_error(NotUsable, {"word": "program", "at": -1}, function, SERVER, "stay", thing)
                self.assert_error(InvalidPaper, {"word": "shape", "at": -1}, function, PROGRAM, "stays", thing)


if __name__ == "__main__":
    unittest.main()
