"""Tables of fates as objects (points 34, 36, 37, 38, 41 and 42)."""

import copy
import random
import unittest

from keptends.errors import InvalidPaper, NotUsable
from keptends.fateclasses import Fates, Listed
from keptends.fates import all_fates
from keptends.hangs import ways_of
from keptends.runclasses import Run
from tests.checks import Case
from tests.fateoracle import FORMS, first_of, has_way, list_fault
from tests.fatesamples import BOTH, CHAIN, ROUND, SAFE, SELF, keys_of, many_programs, wide_list
from tests.samples import KID, LATE, MAIN, ODD, PROGRAM, PROGRAMS, SERVER

ENDED, NONE = FORMS[:2]
STAYS = ("moment", False, True, False, True, False)
ALONE = (BOTH, (SERVER,))
NO_PROGRAMS = [thing for thing in ODD if thing != PROGRAM] + [(BOTH, (MAIN, KID))]
PROPERTIES = ("program_now", "table_now", "first_now", "ways_now")


class Late(Listed):
    """A class that is derived from Listed elsewhere."""


def line_by_hand(entry):
    """An entry as a line."""
    name, (r, w), fates = entry
    return " ".join([name, r, w] + ["ended" if fate == ENDED else "".join("-+"[one] for one in fate[1:]) for fate in fates])


class Objects(Case):
    def each(self, seed, many=15):
        """Triples of a program, a closed list of it, and an object with it."""
        rng = random.Random(seed)
        for program in many_programs(seed, many):
            least = all_fates(program)
            yield program, least, Fates(program)
            yield program, least, Listed(thing=least, program=program)
            wide = wide_list(rng, program)
            yield program, wide, Late(program, wide)
            yield program, wide, Listed(program, wide)

    def assert_unchanged(self, program, table, one):
        self.assert_same((one.program_now, one.table_now), (program, table))


class Values(Objects):
    def test_the_examples(self):
        one = Fates(PROGRAM)
        self.assert_same(
            [one.ways_now, one["server", BOTH] == (STAYS,), one("kid"), ("kid", ("open", "none")) in one, len(one)],
            [("stays",), True, (BOTH,), False, 3])
        wide = Listed(ALONE, (("server", BOTH, (ENDED, STAYS)),))
        self.assert_same(
            [str(wide), wide.spare_now, Fates(ALONE) <= wide, (wide & Fates(ALONE)) == Fates(ALONE)],
            ["server open open ended -+-+-", (("server", BOTH, (ENDED,)),), True, True])

    def test_properties(self):
        for program, table, one in self.each(41):
            first = [fates for name, ends, fates in table if (name, ends) == first_of(program)][0]
            ways = tuple(way for way in ("joins", "own", "stays") if any(has_way(fate, way) for fate in first))
            for _ in range(2):
                self.assert_same([getattr(one, name) for name in PROPERTIES], [program, table, first, ways])
            if type(one) is Fates:
                self.assert_same(one.ways_now, ways_of(program))
                self.assertFalse(hasattr(one, "spare_now"))

    def test_properties_cannot_be_assigned(self):
        for one, names in ((Fates(PROGRAM), PROPERTIES), (Listed(PROGRAM, all_fates(PROGRAM)), PROPERTIES + ("spare_now",))):
            for name in names:
                with self.assertRaises(AttributeError):
                    setattr(one, name, ())

    def test_keys_and_names(self):
        for program, table, one in self.each(411):
            keys = [entry[:2] for entry in table]
            for _ in range(2):
                for name, ends, fates in table:
                    self.assert_same(one[name, ends], fates)
                    self.assertIs((name, ends) in one, True)
                for role in program[1]:
                    wanted = tuple(ends for name, ends in keys if name == role[0])
                    self.assert_same(one(role[0]), wanted)
                    self.assert_same(one(name=role[0]), wanted)
                self.assert_same(len(one), len(table))
                self.assert_same([key for key in one], keys)
                self.assert_same(list(zip(one, one)), list(zip(keys, keys)))
            for key in keys_of(program):
                self.assertIs(key in one, key in keys)
                if key not in keys:
                    self.assert_error(NotUsable, {"word": "key", "at": -1}, lambda: one[key])
            self.assert_unchanged(program, table, one)

    def test_keys_and_names_of_other_kinds(self):
        for one in (Fates(PROGRAM), Listed(PROGRAM, all_fates(PROGRAM))):
            for odd in ODD + (one, Run(PROGRAM), slice(0, 1), "server", ["server", BOTH], ("server", list(BOTH)), ("server",),
                              ("server", BOTH, BOTH), ("other", BOTH), (BOTH, "server"), ("server", ("open", "marked"))):
                self.assert_error(NotUsable, {"word": "key", "at": -1}, lambda: one[odd])
                self.assertIs(odd in one, False)
                if odd not in ("server", "kid"):
                    self.assert_error(NotUsable, {"word": "name", "at": -1}, one, odd)
                    self.assert_error(NotUsable, {"word": "name", "at": -1}, one, name=odd)
            self.assertIs(("server", BOTH) in one, True)
        # A role that no birth leads to has no entry, but it is one.
        program = (BOTH, PROGRAM[1] + (("more", (("end",),), ()),))
        self.assert_same(Fates(program)("more"), ())

    def test_text(self):
        for program, table, one in self.each(412):
            for _ in range(2):
                self.assertIs(type(str(one)), str)
                self.assert_same(str(one), "\n".join(map(line_by_hand, table)))
        self.assert_same(str(Fates(PROGRAM)), (
            "kid open open ----- -+-+-\nmain open open ----- -+-+- ++--- ++-+-\nserver open open -+-+-"))
        whole = Listed(ALONE, (("server", BOTH, FORMS),))
        self.assert_same(str(whole), "server open open ended ----- -+--- -+--+ -+-+- -+-++ ++--- ++--+ ++-+- ++-++ +++-- +++-+ ++++- +++++")

    def test_spare(self):
        seen = 0
        for program, table, one in self.each(413):
            if isinstance(one, Listed):
                least = {entry[:2]: entry[2] for entry in all_fates(program)}
                spare = [(name, ends, tuple(fate for fate in fates if fate not in least.get((name, ends), ())))
                         for name, ends, fates in table]
                wanted = tuple(entry for entry in spare if entry[2])
                for _ in range(2):
                    self.assert_same(one.spare_now, wanted)
                seen += bool(wanted)
        self.assertGreater(seen, 30)
        self.assert_same(Listed(SAFE, all_fates(SAFE)).spare_now, ())


class Made(Objects):
    def test_errors(self):
        self.assert_order(NotUsable, lambda program: Fates(program).table_now, {"program": PROGRAM}, {"program": NO_PROGRAMS})
        for thing in ODD + (all_fates(PROGRAM),):
            for odd in NO_PROGRAMS[::4]:
                self.assert_error(NotUsable, {"word": "program", "at": -1}, Listed, odd, thing)
                self.assert_error(NotUsable, {"word": "program", "at": -1}, Listed, thing=thing, program=odd)

    def test_lists_that_are_not_closed(self):
        rng = random.Random(414)
        seen = set()
        for program, table, _ in self.each(414, 8):
            k = rng.randrange(len(table))
            entry = table[k]
            for thing in (table, table[::-1], table[:k] + table[k + 1:], list(table), table[:k] + (entry,) + table[k:], (), None,
                          table[:k] + (entry[:2] + (entry[2][1:],),) + table[k + 1:],
                          table[:k] + (entry[:2] + (entry[2][::-1],),) + table[k + 1:], rng.choice(ODD)):
                fault = list_fault(program, thing, ())
                kept = copy.deepcopy(thing)
                seen.add(fault and fault[0])
                if fault is None:
                    self.assert_same(Listed(program, thing).table_now, thing)
                else:
                    self.assert_error(InvalidPaper, {"word": fault[0], "at": fault[1]}, Listed, program, thing)
                self.assert_same(thing, kept)
        self.assertEqual(seen, {None, "shape", "entry", "first", "birth", "fate"})

    def test_lists_with_ways_are_let(self):
        self.assert_same(Listed(PROGRAM, all_fates(PROGRAM)).ways_now, ("stays",))
        whole = tuple((name, ends, FORMS) for name, ends in sorted(keys_of(SELF)))
        self.assert_same(Listed(SELF, whole).ways_now, ("joins", "own", "stays"))

    def test_derived_directly(self):
        self.assertEqual(Listed.__bases__, (Fates,))
        self.assertEqual(Fates.__bases__, (object,))


class Comparing(Objects):
    def objects(self):
        """Objects of several programs, some with equal tables."""
        rng = random.Random(415)
        more = (BOTH, PROGRAM[1] + (("more", (("end",),), ()),))
        found = []
        for program in (PROGRAM, copy.deepcopy(PROGRAM), SAFE, more, (("open", "marked"), PROGRAM[1]), LATE, SELF, ROUND, CHAIN, ALONE):
            found.append((program, all_fates(program), Fates(program)))
            found.append((program, all_fates(program), Listed(program, all_fates(program))))
            for _ in range(3):
                wide = wide_list(rng, program)
                found.append((program, wide, Listed(program, wide)))
        return found

    def test_equal_and_within(self):
        objects = self.objects()
        seen = set()
        for program, table, one in objects:
            for other_program, other_table, other in objects:
                equal = program == other_program and table == other_table
                self.assertIs(one == other, equal)
                self.assertIs(one != other, not equal)
                entries = {entry[:2]: set(entry[2]) for entry in other_table}
                within = all(set(fates) <= entries.get((name, ends), set()) for name, ends, fates in table)
                self.assertIs(one <= other, within)
                seen.add((equal, within, program == other_program))
        # Those of other programs may lie within, but are not equal.
        self.assertEqual(seen, {(True, True, True), (False, True, True), (False, False, True), (False, True, False),
                                (False, False, False)})

    def test_both(self):
        for program, table, one in self.objects():
            for other_program, other_table, other in self.objects():
                if program != other_program:
                    self.assert_error(NotUsable, {"word": "other", "at": -1}, lambda: one & other)
                    continue
                entries = {entry[:2]: entry[2] for entry in other_table}
                wanted = tuple((name, ends, tuple(fate for fate in fates if fate in entries[name, ends]))
                               for name, ends, fates in table if (name, ends) in entries)
                both = one & other
                self.assertIs(type(both), Listed)
                self.assert_same((both.program_now, both.table_now), (program, wanted))
                self.assertIsNone(list_fault(program, wanted, ()))
                self.assertIs(both <= one and both <= other, True)
                self.assertIs(both == other & one, True)
                self.assert_unchanged(program, table, one)
                self.assert_unchanged(other_program, other_table, other)

    def test_other_values(self):
        for one in (Fates(PROGRAM), Listed(PROGRAM, all_fates(PROGRAM))):
            for odd in ODD + (one.table_now, str(one), Run(PROGRAM), PROGRAM, object()):
                self.assertIs(one == odd, False)
                self.assertIs(odd == one, False)
                self.assertIs(one != odd, True)
                self.assert_error(NotUsable, {"word": "other", "at": -1}, lambda: one <= odd)
                self.assert_error(NotUsable, {"word": "other", "at": -1}, lambda: one & odd)


class Consequences(Objects):
    def test_point_42(self):
        for program, table, one in self.each(42):
            self.assertIs(Fates(program) <= one, True)
            self.assertLessEqual(set(ways_of(program)), set(one.ways_now))
            self.assertIs((one & Fates(program)) == Fates(program), True)
            self.assert_unchanged(program, table, one)

    def test_programs_of_the_samples(self):
        for program in PROGRAMS:
            self.assert_same(Fates(program).table_now, all_fates(program))


if __name__ == "__main__":
    unittest.main()
