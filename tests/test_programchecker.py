"""Whole programs (points 3, 9 and 11)."""

import itertools
import random
import unittest

from keptends.errors import InvalidPaper
from keptends.programchecker import is_program, lets_program
from keptends.programclasses import Program
from tests import oracle
from tests.checks import Case
from tests.samples import BIG, KID, MAIN, ODD, PROGRAM, PROGRAMS, SERVER, random_program, variants

BOTH = ("open", "open")
END = (("end",),)
# A role spoilt in each way, with the words that tell it where it stands alone.
SPOILT = {
    "role": (None, [], (), ["a", END, ()], ("a", [("end",)], ()), ("A", END, ()), ("a", END), ("a", (("go", ()),), ())),
    "target": (("bad", (("read", 1),), ()), ("bad", (("end",), ("go", (0, 2))), ()), ("bad", (("copy", "bad", BIG),), ())),
    "name": (("bad", (("copy", "nobody", 0),), ()), ("bad", (("end",), ("start", "nobody", 1)), ())),
    "aside": (("bad", END, (("copy", "nobody"),)), ("bad", END, (("copy", "bad"), ("start", "nobody")))),
}


class Checker(Case):
    def assert_told(self, thing, wanted):
        """wanted is the fault of the thing, a pair of word and place, or None."""
        before = repr(thing)
        self.assertIs(is_program(thing), wanted is None, thing)
        self.assertIs(is_program(thing=thing), wanted is None)
        if wanted is None:
            self.assert_same(lets_program(thing), len(thing[1]))
            self.assert_same(lets_program(thing=thing), len(thing[1]))
        else:
            fields = {"word": wanted[0], "at": wanted[1]}
            self.assert_error(InvalidPaper, fields, lets_program, thing)
            self.assert_error(InvalidPaper, fields, lets_program, thing=thing)
        self.assertEqual(repr(thing), before)

    def assert_as_told_twice(self, thing):
        self.assert_told(thing, oracle.paper_fault(thing))

    def test_programs(self):
        for program in PROGRAMS:
            self.assert_told(program, None)

    def test_programs_of_one_to_five_roles(self):
        rng = random.Random(11)
        for many in range(200):
            program = random_program(rng, most_roles=5)
            self.assert_told(program, None)

    def test_shape(self):
        roles = PROGRAM[1]
        for thing in ODD[:-2] + (
                list(PROGRAM), (BOTH,), (BOTH, roles, ()), (BOTH, ()), (BOTH, list(roles)), (list(BOTH), roles),
                (BOTH + ("open",), roles), (("open",), roles), ((), roles), (None, roles), (BOTH, None), ("ab", roles),
                (BOTH, "roles"), (roles, BOTH, BOTH), [BOTH, roles], (["open", "open"], [])):
            self.assert_told(thing, ("shape", -1))

    def test_begin(self):
        for begin in (("none", "open"), ("open", "none"), ("open", "closed"), (None, None), (1, True), ((), []),
                      (["open"], "open"), ("open", "Open")):
            self.assert_told((begin, PROGRAM[1]), ("begin", -1))
            # A begin is told ahead of roles that are none.
            self.assert_told((begin, (None,)), ("begin", -1))

    def test_each_fault_alone(self):
        places = {"target": {0: 0, 1: 1, 2: 0}, "name": {0: 0, 1: 1}, "aside": {0: 0, 1: 1}}
        for word, roles in SPOILT.items():
            for n, role in enumerate(roles):
                for many in range(5):
                    fine = tuple((name, END, ()) for name in ("a", "b", "c", "d")[:many])
                    for k in range(many + 1):
                        at = k if word == "role" else (k, places[word][n])
                        self.assert_told((BOTH, fine[:k] + (role,) + fine[k:]), (word, at))

    def test_a_name_twice(self):
        for many in range(2, 6):
            names = ["a", "b", "c", "d", "e"][:many]
            for one, other in itertools.combinations(range(many), 2):
                twice = names[:other] + [names[one]] + names[other + 1:]
                self.assert_told((BOTH, tuple((name, END, ()) for name in twice)), ("twice", other))

    def test_two_faults_at_once_in_each_order(self):
        faults = [role for roles in SPOILT.values() for role in roles] + [("good", (("read", 5),), ())]
        good = ("good", END, ())
        for one, other in itertools.permutations(faults, 2):
            for roles in ((one, other), (one, good, other), (good, one, other), (one, other, good, good)):
                renamed = tuple(
                    (f"r{'abcdef'[k]}",) + role[1:] if isinstance(role, tuple) and role[:1] == ("bad",) else role
                    for k, role in enumerate(roles))
                self.assert_as_told_twice((BOTH, roles))
                self.assert_as_told_twice((BOTH, renamed))

    def test_the_order_within_one_role(self):
        role = ("a", (("copy", "nobody", 9), ("read", 9)), (("copy", "nobody"),))
        self.assert_told((BOTH, (role,)), ("target", (0, 0)))
        self.assert_told((BOTH, (("a", (("copy", "nobody", 0), ("read", 9)), role[2]),)), ("name", (0, 0)))
        self.assert_told((BOTH, (("a", (("end",), ("read", 9)), role[2]),)), ("target", (0, 1)))
        self.assert_told((BOTH, (("a", END, role[2]), ("b", (("read", 9),), ()))), ("aside", (0, 0)))
        self.assert_told((BOTH, (role, None)), ("role", 1))
        self.assert_told((BOTH, (role, ("a", (), ()))), ("role", 1))
        self.assert_told((BOTH, (role, role)), ("twice", 1))
        self.assert_told((BOTH, (role, role, None)), ("twice", 1))

    def test_births_of_roles_that_come_later_and_of_its_own(self):
        self.assert_told((BOTH, (("a", (("copy", "b", 0),), (("start", "b"),)), ("b", END, ()))), None)
        self.assert_told((BOTH, (("a", (("copy", "a", 0),), (("start", "a"),)),)), None)

    def test_targets_at_the_edge(self):
        for instruction in (("go", (0, 2)), ("copy", "a", 2), ("mark", "r", 2), ("close", "w", 2), ("read", 2),
                            ("write", 2), ("wait", 2)):
            longer = (instruction, ("end",), ("end",))
            self.assert_told((BOTH, (("a", longer, ()),)), None)
            self.assert_told((BOTH, (("a", longer[:2], ()),)), ("target", (0, 0)))
            self.assert_told((BOTH, (("a", longer[1:] + longer[:1], ()),)), None)
            self.assert_told((BOTH, (("a", longer[1:2] + longer[:1], ()),)), ("target", (0, 1)))

    def test_programs_with_one_difference(self):
        seen = {}
        for program in PROGRAMS + ((BOTH, (KID, SERVER, MAIN)),):
            for thing in variants(program):
                self.assert_as_told_twice(thing)
                seen[(oracle.paper_fault(thing) or ("fine",))[0]] = True
        self.assertEqual(sorted(seen), ["aside", "begin", "fine", "name", "role", "shape", "target", "twice"])

    def test_programs_with_two_differences(self):
        rng = random.Random(5)
        others = (None, True, 0, 1, 9, (), [], "a", "nobody", "open")
        for program in PROGRAMS:
            once = [thing for thing in variants(program, others) if isinstance(thing, tuple)]
            for thing in rng.sample(once, 40):
                for twice in rng.choices(list(variants(thing, others)), k=40):
                    self.assert_as_told_twice(twice)

    def test_an_object_is_no_program(self):
        self.assert_told_object(Program(*PROGRAM))

    def assert_told_object(self, thing):
        self.assertIs(is_program(thing), False)
        self.assert_error(InvalidPaper, {"word": "shape", "at": -1}, lets_program, thing)

    def test_beyond_all_limits(self):
        # Names of letters alone, as many as are asked for.
        names = ["".join(letters) for letters in itertools.product("abcdefgh", repeat=3)]
        roles = tuple((name, (("go", tuple(range(40))),) * 40, (("copy", name),)) for name in names)
        self.assert_told((BOTH, roles), None)
        self.assert_told((BOTH, roles + roles[7:8]), ("twice", len(roles)))
        self.assert_told((BOTH, (("a", (("read", 4999),) * 5000, ()),)), None)
        self.assert_told((BOTH, (("a", (("read", 5000),) * 5000, ()),)), ("target", (0, 0)))


if __name__ == "__main__":
    unittest.main()
