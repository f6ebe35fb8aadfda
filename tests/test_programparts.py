"""Parts of programs (points 12 and 13)."""

import random
import unittest

from keptends.errors import NotUsable
from keptends.kinds import WORDS
from keptends.programparts import births_in, names_in, places_with, role_in, role_names_born, targets_at
from tests.checks import Case
from tests.oracle import leads
from tests.samples import BIG, BREED, JOINS, KID, MAIN, ODD, PROGRAM, PROGRAMS, SERVER, random_programs

NO_PROGRAMS = [thing for thing in ODD if thing != PROGRAM] + [(("open", "open"), (MAIN, KID))]
NO_NAMES = [thing for thing in ODD if thing != "kid"] + ["other", "mai", "mainx", ["kid"], ("kid",)]
MANY = PROGRAMS + tuple(random_programs(13, 150))


class Parts(Case):
    def test_names_in(self):
        self.assert_same(names_in(PROGRAM), ("main", "kid", "server"))
        self.assert_same(names_in(program=BREED), ("a", "b", "c"))
        for program in MANY:
            self.assert_same(names_in(program), tuple(role[0] for role in program[1]))
        self.assert_order(NotUsable, names_in, {"program": PROGRAM}, {"program": NO_PROGRAMS})

    def test_role_in(self):
        for program in MANY:
            for role in program[1]:
                self.assert_same(role_in(program, role[0]), role)
                self.assert_same(role_in(program=program, name=role[0]), role)
        self.assert_order(NotUsable, role_in, {"program": PROGRAM, "name": "kid"},
                          {"program": NO_PROGRAMS, "name": NO_NAMES})

    def test_births_in_by_hand(self):
        self.assert_same(births_in(PROGRAM, "kid"), (("start", "server"),))
        self.assert_same(births_in(PROGRAM, "server"), ())
        self.assert_same(births_in(BREED, "a"), (("copy", "b"), ("start", "a"), ("start", "b")))
        self.assert_same(births_in(BREED, name="b"), (("start", "c"),))
        self.assert_same(births_in(JOINS, "leaf"), (("copy", "none"),))
        # Birth by copy and by start, twice each, and by asides as well.
        role = ("a", (("start", "b", 0), ("copy", "b", 0), ("start", "a", 0), ("copy", "b", 0)), (("start", "b"),))
        program = (("open", "open"), (role, ("b", (("end",),), (("copy", "a"), ("copy", "b"), ("start", "a")))))
        self.assert_same(births_in(program, "a"), (("copy", "b"), ("start", "a"), ("start", "b")))
        self.assert_same(births_in(program, "b"), (("copy", "a"), ("copy", "b"), ("start", "a")))

    def test_births_in(self):
        for program in MANY:
            for name, places, asides in program[1]:
                births = {place[:2] for place in places if place[0] in ("copy", "start")} | set(asides)
                self.assert_same(births_in(program, name), tuple(sorted(births)))
        self.assert_order(NotUsable, births_in, {"program": PROGRAM, "name": "kid"},
                          {"program": NO_PROGRAMS, "name": NO_NAMES})

    def test_role_names_born_by_hand(self):
        self.assert_same(role_names_born(PROGRAM), ("kid", "main", "server"))
        self.assert_same(role_names_born((PROGRAM[0], (SERVER, MAIN, KID))), ("server",))
        self.assert_same(role_names_born((PROGRAM[0], (KID, SERVER, MAIN))), ("kid", "server"))
        self.assert_same(role_names_born(program=JOINS), ("leaf", "mid", "none", "top"))
        # A birth counts at a place to which no target leads.
        self.assert_same(role_names_born((PROGRAM[0], (("a", (("end",), ("copy", "b", 0)), ()), ("b", (("end",),), ())))),
                         ("a", "b"))
        # Births by asides alone.
        aside = (("a", (("end",),), (("copy", "c"),)), ("b", (("end",),), ()), ("c", (("end",),), (("start", "a"),)))
        self.assert_same(role_names_born((PROGRAM[0], aside)), ("a", "c"))

    def test_role_names_born_in_chains_and_rings(self):
        names = ("h", "c", "a", "g", "e", "b", "d", "f")
        for word in ("copy", "start"):
            for by_aside in (False, True):
                for ring in (False, True):
                    for begin in range(8):
                        self._check_chain(names, word, by_aside, ring, begin)

    def _check_chain(self, names, word, by_aside, ring, begin):
        roles = []
        for k, name in enumerate(names):
            behind = names[k + 1:k + 2] or (names[:1] if ring else ())
            asides = tuple((word, other) for other in behind) if by_aside else ()
            births = () if by_aside else tuple((word, other, 0) for other in behind)
            roles.append((name, (("end",),) + births, asides))
        roles = roles[begin:begin + 1] + roles[:begin] + roles[begin + 1:]
        wanted = names if ring else names[begin:]
        self.assert_same(role_names_born((("open", "open"), tuple(roles))), tuple(sorted(wanted)))

    def test_role_names_born(self):
        for program in MANY:
            found = {program[1][0][0]}
            for _ in program[1]:
                for name, places, asides in program[1]:
                    if name in found:
                        found |= {place[1] for place in places if place[0] in ("copy", "start")}
                        found |= {aside[1] for aside in asides}
            self.assert_same(role_names_born(program), tuple(sorted(found)))
        self.assert_order(NotUsable, role_names_born, {"program": PROGRAM}, {"program": NO_PROGRAMS})

    def test_places_with(self):
        self.assert_same(places_with(PROGRAM, "kid", "close"), (1,))
        self.assert_same(places_with(PROGRAM, "server", "end"), ())
        self.assertEqual(len(WORDS), 10)
        for program in MANY:
            for name, places, _ in program[1]:
                for word in WORDS:
                    wanted = tuple(k for k, place in enumerate(places) if place[0] == word)
                    self.assert_same(places_with(program, name, word), wanted)
        self.assert_same(places_with(program=JOINS, name="leaf", word="read"), (3,))
        self.assert_order(
            NotUsable, places_with, {"program": PROGRAM, "name": "kid", "word": "stay"},
            {"program": NO_PROGRAMS, "name": NO_NAMES,
             "word": [thing for thing in ODD if thing not in WORDS] + ["aside", "begin", "role", "GO", ["go"], ("go",)]})

    def test_targets_at_by_hand(self):
        self.assert_same(targets_at(PROGRAM, "main", 2), (3,))
        places = (("go", (0, 3, 11)), ("copy", "a", 1), ("start", "a", 2), ("mark", "r", 3), ("close", "w", 4),
                  ("read", 5), ("write", 6), ("wait", 7), ("stay",), ("end",), ("go", (2,)), ("end",))
        program = (("open", "open"), (("a", places, ()),))
        wanted = ((0, 3, 11), (1,), (2,), (3,), (4,), (5,), (6,), (7,), (), (), (2,), ())
        for place, targets in enumerate(wanted):
            self.assert_same(targets_at(program, "a", place), targets)
            self.assert_same(targets_at(program=program, name="a", place=place), targets)

    def test_targets_at(self):
        for program in MANY:
            for name, places, _ in program[1]:
                for k, instruction in enumerate(places):
                    self.assert_same(targets_at(program, name, k), tuple(sorted(leads(instruction))))
        self.assert_order(
            NotUsable, targets_at, {"program": PROGRAM, "name": "kid", "place": 3},
            {"program": NO_PROGRAMS, "name": NO_NAMES,
             "place": [4, 5, BIG, -1, -4, True, False, None, "0", (0,), [0], "kid", ()]})
        self.assert_order(NotUsable, targets_at, {"program": PROGRAM, "name": "server", "place": 0}, {"place": [1, 3]})

    def test_nothing_is_changed(self):
        rng = random.Random(3)
        for program in rng.sample(MANY, 20):
            before = repr(program)
            for role in program[1]:
                births_in(program, role[0])
                role_in(program, role[0])
            role_names_born(program)
            self.assertEqual(repr(program), before)


if __name__ == "__main__":
    unittest.main()
