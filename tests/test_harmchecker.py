"""Papers of harms (points 6, 26, 43 and 47)."""

import copy
import random
import unittest

from keptends.errors import InvalidPaper, NotUsable
from keptends.hangings import first_shown
from keptends.harmchecker import lets_harm
from keptends.kinds import HARMS
from tests.checks import Case
from tests.fatesamples import BOTH
from tests.oracle import shown_first
from tests.runsamples import FEW, STEPS, all_runs, beginnings, many_runs
from tests.samples import KID, LATE, MAIN, ODD, PROGRAM, RUN, SERVER
from tests.test_hangings import ALONE, STAYS, STAYS_RUN, WAITS, WAITS_RUN
from tests.test_runchecker import run_fault

NO_PROGRAMS = [thing for thing in ODD if thing != PROGRAM] + [(BOTH, (MAIN, KID))]
NO_HARMS = [thing for thing in ODD if thing not in HARMS] + ["Own", "hang", ("kept",), ["kept"], HARMS, "moment"]


class HarmChecker(Case):
    def assert_judged(self, program, harm, thing):
        """The paper is let, or refused, as the second telling has it."""
        before = copy.deepcopy(thing)
        fault = run_fault(program, thing)
        first = shown_first(program, thing).get(harm) if fault is None else None
        if first is not None:
            self.assert_same(lets_harm(program, harm, thing), first)
            self.assert_same(lets_harm(thing=thing, harm=harm, program=program), first)
            self.assert_same(first_shown(program, thing, harm), first)
        else:
            word, at = fault or ("harm", -1)
            self.assert_error(InvalidPaper, {"word": word, "at": at}, lets_harm, program, harm, thing)
            self.assert_error(InvalidPaper, {"word": word, "at": at}, lets_harm, thing=thing, harm=harm, program=program)
        self.assert_same(thing, before)
        return fault[0] if fault else first

    def test_the_examples(self):
        self.assert_same(lets_harm(PROGRAM, "kept", RUN), 2)
        self.assert_error(InvalidPaper, {"word": "harm", "at": -1}, lets_harm, PROGRAM, "deaf", RUN)

    def test_each_harm(self):
        samples = list(ALONE.values()) + [(STAYS, STAYS_RUN), (WAITS, WAITS_RUN), (LATE, FEW[1][1])]
        seen = set()
        for program, run in samples:
            for beginning in beginnings(run):
                for harm in HARMS:
                    if isinstance(self.assert_judged(program, harm, beginning), int):
                        seen.add(harm)
        self.assertEqual(seen, set(HARMS))
        # The run without steps shows harms, too.
        self.assert_same(lets_harm((BOTH, (SERVER,)), "kept", ()), 0)

    def test_all_short_runs(self):
        for program in (PROGRAM, LATE, STAYS, WAITS):
            for length in range(4):
                for run in all_runs(program, length)[:30]:
                    for harm in HARMS:
                        self.assert_judged(program, harm, run)

    def test_many_runs(self):
        rng = random.Random(47)
        for program, run in many_runs(47, each=2):
            for harm in rng.sample(HARMS, 2) + list(shown_first(program, run))[:2]:
                self.assert_judged(program, harm, run)

    def test_runs_with_one_change(self):
        rng = random.Random(471)
        seen = set()
        for program, run in list(FEW) + [(STAYS, STAYS_RUN)] + list(many_runs(471, each=1, programs=40)):
            harms = list(shown_first(program, run)) or list(HARMS)
            for k in range(min(len(run), 12) + 1):
                odd = rng.choice(ODD)
                process, word, number = run[k] if k < len(run) else (0, "end", -1)
                changed = [
                    run[:k] + run[k + 1:], run[:k] + run[k:k + 1] + run[k:],
                    run[:k] + run[k + 1:k + 2] + run[k:k + 1] + run[k + 2:], run[:k] + ((process + 1, word, number),) + run[k + 1:],
                    run[:k] + ((process, rng.choice(STEPS)[1], number),) + run[k + 1:],
                    run[:k] + ((process, word, number + 1),) + run[k + 1:], run[:k] + (odd,) + run[k + 1:],
                    run[:k] + ([process, word, number],) + run[k + 1:], run + (rng.choice(STEPS),)]
                for thing in changed:
                    found = self.assert_judged(program, rng.choice(harms), thing)
                    seen.add(found if isinstance(found, str) else type(found))
        self.assertEqual(seen, {int, type(None), "step", "process", "word", "number", "read", "wait"})

    def test_values_of_any_kind(self):
        for thing in ODD + (list(RUN), RUN[0], (RUN,), "0 copy", PROGRAM, ("run", RUN)):
            for harm in ("own", "kept"):
                self.assert_judged(PROGRAM, harm, thing)

    def test_not_usable(self):
        self.assert_order(NotUsable, lets_harm, {"program": PROGRAM, "harm": "kept", "thing": RUN},
                          {"program": NO_PROGRAMS, "harm": NO_HARMS})
        for thing in ODD[::2]:
            self.assert_error(NotUsable, {"word": "harm", "at": -1}, lets_harm, PROGRAM, "none", thing)
            self.assert_error(NotUsable, {"word": "program", "at": -1}, lets_harm, SERVER, "none", thing)


if __name__ == "__main__":
    unittest.main()
