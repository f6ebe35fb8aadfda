"""Rules of birth (points 14, 43, 53 and 54)."""

import itertools
import random
import unittest

from keptends.births import births_table, births_without
from keptends.errors import NotUsable
from keptends.harms import harms_of
from keptends.kinds import HARMS, WAYS
from tests.checks import Case
from tests.fateoracle import keys_born, first_of
from tests.fatesamples import FEW_PROGRAMS
from tests.harmoracle import seen_in_runs
from tests.harmsamples import TOLD, many_few_runs, many_rounds
from tests.runsamples import NO_PROGRAMS
from tests.samples import BREED, JOINS, LATE, PROGRAM, PROGRAMS
from tests.test_harms import NO_HARMS

BEGINS = (("marked", "marked"), ("marked", "open"), ("open", "marked"), ("open", "open"))
WORDS = ("as it is", "copy", "start")


def changed(program, begin, word):
    """The program with this begin, and with all births by this word, or as they are."""
    roles = []
    for name, places, asides in program[1]:
        if word != "as it is":
            places = tuple((word,) + at[1:] if at[0] in ("copy", "start") else at for at in places)
            asides = tuple(sorted({(word, child) for _, child in asides}))
        roles.append((name, places, asides))
    return (begin, tuple(roles))


class Births(Case):
    def test_the_examples(self):
        self.assert_same(births_table(PROGRAM)[:3], [
            (("marked", "marked"), "as it is", ()), (("marked", "marked"), "copy", ("kept", "stays")),
            (("marked", "marked"), "start", ("mute",))])
        self.assert_same(
            [births_without(PROGRAM), births_without(PROGRAM, harms=("stays", "kept"))],
            [((("marked", "marked"), "as it is"),), ((("marked", "marked"), "as it is"), (("marked", "marked"), "start"))])

    def assert_table(self, program, harms_by):
        before = repr(program)
        wanted = [(begin, word, harms_by(changed(program, begin, word))) for begin in BEGINS for word in WORDS]
        found = births_table(program)
        self.assert_same(found, wanted, program)
        self.assert_same(births_table(program=program), wanted)
        self.assertEqual(repr(program), before)
        return found

    def test_by_all_runs(self):
        seen = set()
        for program in many_few_runs(531, 60) + [PROGRAM, LATE, TOLD]:
            rows = self.assert_table(program, lambda other: seen_in_runs(other)[0])
            self.assertTrue(seen_in_runs(program)[2])
            seen |= {harm for _, _, found in rows for harm in found}
        self.assertGreaterEqual(len(seen), 6)

    def test_for_all_numbers_of_processes(self):
        for program in many_rounds(532, 40) + [BREED, JOINS]:
            self.assert_table(program, harms_of)

    def test_births_without(self):
        rng = random.Random(533)
        sizes = set()
        for program in many_rounds(533, 4) + list(PROGRAMS):
            rows = births_table(program)
            for harms in [(), HARMS, WAYS] + [tuple(rng.sample(HARMS, rng.randint(1, 4))) for _ in range(3)]:
                wanted = tuple((begin, word) for begin, word, found in rows if not set(found) & set(harms))
                self.assert_same(births_without(program, harms=harms), wanted)
                self.assert_same(births_without(harms=harms, program=program), wanted)
                sizes.add(len(wanted))
            self.assert_same(births_without(program), births_without(program=program, harms=HARMS[::-1]))
            self.assert_same(births_without(program, harms=()), tuple(itertools.product(BEGINS, WORDS)))
        self.assertGreater(len(sizes), 6)

    def test_a_told_table_belongs_to_the_caller(self):
        table = births_table(PROGRAM)
        kept = list(table)
        self.assertIs(type(table), list)
        table.clear()
        table.append(None)
        again = births_table(PROGRAM)
        self.assert_same(again, kept)
        self.assertIsNot(births_table(PROGRAM), again)
        again.pop()
        self.assert_same(births_without(PROGRAM), ((("marked", "marked"), "as it is"),))

    def test_not_usable(self):
        self.assert_order(NotUsable, births_table, {"program": PROGRAM}, {"program": NO_PROGRAMS})
        self.assert_order(NotUsable, births_without, {"program": PROGRAM, "harms": ("kept", "own")},
                          {"program": NO_PROGRAMS, "harms": NO_HARMS}, ("harms",))
        with self.assertRaises(TypeError):
            births_without(PROGRAM, ())

    def test_consequences(self):
        for program in many_rounds(54, 25) + many_few_runs(54, 25) + list(FEW_PROGRAMS):
            rows = {(begin, word): set(found) & set(WAYS) for begin, word, found in births_table(program)}
            for r in ("open", "marked"):
                for word in WORDS:
                    self.assertLessEqual(rows[(r, "marked"), word], rows[(r, "open"), word])
            started = changed(program, ("marked", "marked"), "start")
            first = first_of(started)
            # Where a role bears itself there are two keys of it; only the first holds ends.
            self.assertEqual({ends for name, ends in keys_born(started, first) if (name, ends) != first} - {("none", "none")}, set())


if __name__ == "__main__":
    unittest.main()
