"""Closed lists (points 36, 37 and 40)."""

import copy
import itertools
import random
import unittest

from keptends.errors import InvalidPaper, NotUsable
from keptends.fatechecker import lets_fates
from keptends.fates import all_fates
from keptends.kinds import WAYS
from tests.checks import Case
from tests.fateoracle import FORMS, all_by, first_of, has_way, list_fault
from tests.fatesamples import BOTH, CHAIN, ROUND, SAFE, SELF, keys_of, many_programs, wide_list
from tests.samples import KID, LATE, MAIN, ODD, PROGRAM, SERVER, variants

ALL_WAYS = [ways for many in range(4) for ways in itertools.permutations(WAYS, many)]
NO_WAYS = [thing for thing in ODD if thing not in ((),)] + [
    ("own", "own"), ("own", "stays", "joins", "own"), ("deaf",), ("Own",), ["own"], list(WAYS), "own", ("own", None), (True,)]
ENDED, NONE = FORMS[:2]
STAYS = ("moment", False, True, False, True, False)


class Lists(Case):
    def assert_list(self, program, thing, ways=WAYS):
        """The list is let, or refused, as the second telling has it; it stays as it was."""
        before = copy.deepcopy(thing)
        fault = list_fault(program, thing, ways)
        if fault is None:
            self.assert_same(lets_fates(program, thing, ways=ways), len(thing))
            self.assert_same(lets_fates(ways=ways, thing=thing, program=program), len(thing))
        else:
            fields = {"word": fault[0], "at": fault[1]}
            self.assert_error(InvalidPaper, fields, lets_fates, program, thing, ways=ways)
            self.assert_error(InvalidPaper, fields, lets_fates, thing=thing, program=program, ways=ways)
        self.assert_same(thing, before)
        return fault

    def assert_fault(self, program, thing, word, at, ways=()):
        self.assertEqual(self.assert_list(program, thing, ways), (word, at))

    def test_the_examples(self):
        self.assert_same(lets_fates(SAFE, all_fates(SAFE)), 3)
        self.assert_same(lets_fates(PROGRAM, all_fates(PROGRAM), ways=("own", "joins")), 3)
        self.assert_error(InvalidPaper, {"word": "way", "at": 1}, lets_fates, PROGRAM, all_fates(PROGRAM))

    def test_least_lists_by_ways_in_any_order(self):
        seen = set()
        for program in many_programs(37, 25):
            least = all_fates(program)
            self.assert_same(lets_fates(program, least, ways=()), len(least))
            k = [entry[:2] for entry in least].index(first_of(program))
            for ways in ALL_WAYS:
                comes = any(has_way(fate, way) for fate in least[k][2] for way in ways)
                seen.add(comes)
                self.assertEqual(self.assert_list(program, least, ways), ("way", k) if comes else None)
            # WAYS, if it is left out.
            try:
                self.assert_same(lets_fates(program, least), len(least))
                self.assertIsNone(list_fault(program, least, WAYS))
            except InvalidPaper as error:
                self.assertEqual((error.word, error.at), list_fault(program, least, WAYS))
        self.assertEqual(seen, {True, False})

    def test_by_hand(self):
        main, kid, server = all_fates(PROGRAM)[1], all_fates(PROGRAM)[0], all_fates(PROGRAM)[2]
        self.assert_list(PROGRAM, (kid, main, server), ())
        for thing, word, at in (
                ((), "first", -1), ((kid, server), "first", -1), ((kid, main), "birth", 0), ((main, server), "birth", 0),
                ((main,), "birth", 0), ((main, kid, server), "entry", 1), ((kid, kid, main, server), "entry", 1),
                ((kid, main, server, server), "entry", 3), ([kid, main, server], "shape", -1), (None, "shape", -1),
                ((kid, main, server, None), "entry", 3), ((kid[:2] + ((),), main, server), "entry", 0),
                ((kid[:2] + ((NONE,),), main, server), "fate", 0), ((kid[:2] + ((STAYS,),), main, server), "fate", 0),
                ((kid[:2] + (kid[2][::-1],), main, server), "entry", 0), ((kid, main[:2] + (main[2][1:],), server), "fate", 1),
                ((kid, main, ("server", BOTH, (NONE,))), "fate", 2), ((kid, main, ("other", BOTH, (NONE,))), "entry", 2),
                ((kid, main, ("server", ["open", "open"], (STAYS,))), "entry", 2),
                ((kid, main, ("server", BOTH, [STAYS])), "entry", 2), ((kid, main, ["server", BOTH, (STAYS,)]), "entry", 2),
                ((kid, main, ("server", BOTH, (("moment", 0, 1, 0, 1, 0),))), "entry", 2)):
            self.assert_fault(PROGRAM, thing, word, at)
        # "birth" comes ahead of "fate" of one entry, and both of one entry ahead of those of the next one.
        self.assert_fault(PROGRAM, (kid[:2] + ((ENDED,),), main), "birth", 0)
        self.assert_fault(PROGRAM, (kid[:2] + ((NONE,),), main[:2] + ((ENDED,),), server), "fate", 0)
        self.assert_fault(PROGRAM, (kid, main[:2] + ((ENDED,),), server), "fate", 1, WAYS)
        # Forms come ahead of all that follows on paths, and the first entry ahead of that, too.
        self.assert_fault(PROGRAM, (kid[:2] + ((NONE,),), main, None), "entry", 2)
        self.assert_fault(PROGRAM, (kid[:2] + ((NONE,),), server), "first", -1)

    def test_wider_lists_by_hand(self):
        program = (BOTH, (SERVER,))
        for fates in itertools.chain(*(itertools.combinations(FORMS, many) for many in range(15))):
            if len(fates) < 4 or len(fates) > 12:
                fault = self.assert_list(program, (("server", BOTH, fates),), ())
                self.assertEqual(fault, ("entry", 0) if not fates else None if STAYS in fates else ("fate", 0))
        # An entry that no birth leads to has to be closed as well.
        more = (("server", ("open", "none"), (NONE,)), ("server", BOTH, (STAYS,)))
        self.assert_fault(program, more, "fate", 0)

    def test_a_fate_is_the_same_all_along_a_path(self):
        # A child that has ended ahead of a wait does not wait at a read behind it.
        roles = (("a", (("start", "b", 1), ("wait", 2), ("stay",)), ()), ("b", (("read", 1), ("end",)), ()))
        program = (("open", "marked"), roles)
        waits, joins = ("moment", True, True, False, False, False), ("moment", True, True, False, False, True)
        child = ("b", ("open", "none"), (waits,))
        self.assert_same(all_by(program), (("a", ("open", "marked"), (NONE, joins)), child))
        self.assert_list(program, (("a", ("open", "marked"), (NONE, joins)), child), ())
        wide = ("b", ("open", "none"), (ENDED, waits))
        self.assert_fault(program, (("a", ("open", "marked"), (NONE, joins)), wide), "fate", 0)
        self.assertIsNone(self.assert_list(program, (("a", ("open", "marked"), (NONE, STAYS, joins)), wide), ()))

    def test_spoilt_least_lists(self):
        for program in many_programs(371, 8):
            least = all_fates(program)
            rng = random.Random(len(least))
            for k, entry in enumerate(least):
                name, ends, fates = entry
                changed = [least[:k] + least[k + 1:], least[:k] + (entry,) + least[k:],
                           least[:k] + least[k + 1:k + 2] + (entry,) + least[k + 2:], least[:k] + (list(entry),) + least[k + 1:]]
                others = [fates[::-1], (), list(fates), fates + fates[:1], fates[:1], FORMS, rng.choice(FORMS)]
                others += [fates[:n] + fates[n + 1:] for n in range(len(fates))]
                others += [tuple(sorted(set(fates) | {fate})) for fate in rng.sample(FORMS, 3)]
                changed += [least[:k] + ((name, ends, other),) + least[k + 1:] for other in others]
                changed += [least[:k] + ((other, ends, fates),) + least[k + 1:] for other in ("nobody", "a", None)]
                for thing in changed:
                    self.assert_list(program, thing, rng.choice(ALL_WAYS))

    def test_lists_with_one_change_at_any_depth(self):
        for program in (SELF, (BOTH, (SERVER,)), LATE):
            for thing in variants(all_fates(program), ODD[::3] + (ENDED, NONE, STAYS, "a", BOTH, ("open", "none"))):
                self.assert_list(program, thing, ())

    def test_what_is_no_list(self):
        for thing in ODD + ({}, "ended", (ENDED,), (("a", BOTH),), FORMS):
            self.assert_list(PROGRAM, thing)
            self.assert_list(PROGRAM, (thing,))

    def test_wide_lists(self):
        rng = random.Random(372)
        seen = set()
        for program in many_programs(372, 20):
            least = all_fates(program)
            for _ in range(3):
                wide = wide_list(rng, program)
                self.assertIsNone(self.assert_list(program, wide, ()))
                table = {entry[:2]: set(entry[2]) for entry in wide}
                for name, ends, fates in least:
                    self.assertLessEqual(set(fates), table[name, ends])
                self.assert_list(program, wide, rng.choice(ALL_WAYS))
                k = rng.randrange(len(wide))
                name, ends, fates = wide[k]
                less = wide[:k] + ((name, ends, tuple(fate for fate in fates if rng.random() < 0.7) or fates),) + wide[k + 1:]
                seen.add(self.assert_list(program, less, ()))
                seen.add(self.assert_list(program, wide[:k] + wide[k + 1:], ()))
        self.assertLessEqual({"birth", "fate", "first"}, {fault[0] for fault in seen if fault})
        self.assertIn(None, seen)

    def test_all_entries_with_all_fates(self):
        for program in (PROGRAM, SELF, ROUND):
            whole = tuple((name, ends, FORMS) for name, ends in sorted(keys_of(program)))
            self.assertIsNone(self.assert_list(program, whole, ()))
            for ways in ALL_WAYS[1:5]:
                self.assert_fault(program, whole, "way", [entry[:2] for entry in whole].index(first_of(program)), ways)

    def test_eighty_entries(self):
        names = "abcdefghi"
        roles = tuple((name, (("go", (1, 2)), ("copy", names[k - 1], 0), ("wait", 3), ("end",)), (("start", names[k - 2]),))
                      for k, name in enumerate(names))
        program = (BOTH, roles)
        whole = tuple((name, ends, FORMS) for name, ends in sorted(keys_of(program)))
        self.assertEqual(len(whole), 81)
        self.assert_same(lets_fates(program, whole, ways=()), 81)
        self.assert_error(InvalidPaper, {"word": "birth", "at": 0}, lets_fates, program, whole[:72], ways=())
        self.assert_error(InvalidPaper, {"word": "way", "at": 8}, lets_fates, program, whole)

    def test_not_usable(self):
        no_programs = [thing for thing in ODD if thing != PROGRAM] + [(BOTH, (MAIN, KID))]
        good = {"program": PROGRAM, "thing": all_fates(PROGRAM), "ways": ("own",)}
        self.assert_order(NotUsable, lets_fates, good, {"program": no_programs, "ways": NO_WAYS}, ("ways",))
        # What is judged is not refused, and ways are asked for ahead of it.
        for thing in ODD:
            self.assert_error(NotUsable, {"word": "ways", "at": -1}, lets_fates, PROGRAM, thing, ways=("own", "own"))
            self.assert_error(NotUsable, {"word": "program", "at": -1}, lets_fates, SERVER, thing)
            self.assert_error(InvalidPaper, {"word": list_fault(PROGRAM, thing, ())[0], "at": list_fault(PROGRAM, thing, ())[1]},
                              lets_fates, PROGRAM, thing)
        with self.assertRaises(TypeError):
            lets_fates(PROGRAM, all_fates(PROGRAM), ())


class Consequences(Case):
    def test_point_40(self):
        for program in many_programs(40, 30) + (CHAIN, ROUND):
            for _, _, fates in all_fates(program):
                self.assertTrue([fate for fate in fates if fate[0] == "moment"])
                self.assertTrue(ENDED not in fates or NONE in fates)


if __name__ == "__main__":
    unittest.main()
