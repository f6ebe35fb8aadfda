"""Likeness of programs (points 6, 43, 46, 55 and 56)."""

import random
import unittest

from keptends.errors import NotUsable
from keptends.hangs import ways_of
from keptends.harms import ends_told, harms_of
from keptends.kinds import HARMS
from keptends.likeness import have_same_harms, have_same_reads, have_same_ways, parting_harm
from keptends.programchanges import renamed, with_begin, with_instruction, with_role
from tests.checks import Case
from tests.fatesamples import FEW_PROGRAMS, SAFE
from tests.harmsamples import TOLD, UNHEARD, many_few_runs, many_rounds
from tests.runsamples import NO_PROGRAMS
from tests.samples import KID, LATE, MAIN, PROGRAM, SERVER

FUNCTIONS = (have_same_harms, have_same_ways, have_same_reads, parting_harm)


def others_of(rng, program):
    """Other programs beside a program, by what they are."""
    first = program[1][0][0]
    name, places, _ = rng.choice(program[1])
    place = rng.randrange(len(places))
    instruction = rng.choice((("stay",), ("end",), ("close", "w", place), ("read", place), ("write", 0), ("wait", 0)))
    spare = ("spare", (("read", 1), ("write", 2), ("stay",)), (("copy", first),))
    return {
        "itself": program,
        "names": renamed(program, name, "other"),
        "role": with_role(program, spare),
        "begin": with_begin(program, rng.choice((("marked", "marked"), ("open", "marked"), ("marked", "open"), ("open", "open")))),
        "order": (program[0], program[1][:1] + tuple(rng.sample(program[1][1:], len(program[1]) - 1))),
        "first": (program[0], tuple(rng.sample(program[1], len(program[1])))),
        "instruction": with_instruction(program, name, place, instruction),
        "another": rng.choice(FEW_PROGRAMS + (TOLD, UNHEARD)),
    }


class Likeness(Case):
    def test_the_examples(self):
        self.assert_same(
            [have_same_harms(PROGRAM, SAFE), have_same_ways(SAFE, LATE), have_same_reads(PROGRAM, SAFE), parting_harm(SAFE, LATE)],
            [False, True, False, "mute"])

    def assert_like(self, one, other):
        """All four functions, both ways round, by position and by name."""
        before = repr((one, other))
        parting = [harm for harm in HARMS if (harm in harms_of(one)) is not (harm in harms_of(other))]
        wanted = (harms_of(one) == harms_of(other), ways_of(one) == ways_of(other), ends_told(one) == ends_told(other),
                  parting[0] if parting else None)
        self.assert_same(tuple(function(one, other) for function in FUNCTIONS), wanted, (one, other))
        self.assert_same(tuple(function(other=one, program=other) for function in FUNCTIONS), wanted, (other, one))
        self.assertEqual(repr((one, other)), before)
        return wanted

    def test_beside_others(self):
        rng = random.Random(55)
        seen = set()
        for program in many_rounds(55, 6) + many_few_runs(55, 6) + list(FEW_PROGRAMS):
            for word, other in others_of(rng, program).items():
                found = self.assert_like(program, other)
                if word == "itself":
                    self.assert_same(found, (True, True, True, None))
                if word in ("names", "role", "order"):
                    self.assert_same((found[0], found[1], found[3]), (True, True, None))
                if word in ("role", "order"):
                    self.assertIs(found[2], True)
                if found[0]:
                    self.assertIs(found[1], True)
                seen.add(found)
        self.assertEqual({found[3] for found in seen}, {None, *HARMS})
        self.assertLessEqual({(True, True, False, None), (False, True, True, "kept"), (False, True, False, "mute")}, seen)

    def test_other_names_of_reads(self):
        self.assert_same(self.assert_like(SAFE, renamed(SAFE, "main", "other")), (True, True, False, None))
        self.assert_same(self.assert_like(SAFE, renamed(SAFE, "kid", "other")), (True, True, True, None))

    def test_the_first_parting_harm(self):
        # own and kept, then kept alone: the first in the order of the harms.
        one = (("open", "open"), (("a", (("go", (1, 2)), ("read", 1), ("stay",)), ()),))
        other = (("open", "open"), (("a", (("end",),), ()),))
        self.assert_same(parting_harm(one, other), "own")
        self.assert_same(parting_harm(with_instruction(one, "a", 1, ("end",)), other), "kept")
        self.assert_same(parting_harm(one, with_instruction(one, "a", 2, ("end",))), "kept")

    def test_not_usable(self):
        no_others = NO_PROGRAMS + [(("open", "open"), (MAIN, KID, SERVER, SERVER)), list(LATE)]
        for function in FUNCTIONS:
            self.assert_order(NotUsable, function, {"program": PROGRAM, "other": SAFE}, {"program": NO_PROGRAMS, "other": no_others})


if __name__ == "__main__":
    unittest.main()
