"""Forms (points 2, 3, 4 and 10)."""

import unittest

from keptends import kinds
from keptends.programclasses import Program
from tests import oracle
from tests.checks import Case
from tests.samples import BIG, JOINS, KID, MAIN, ODD, PROGRAM, PROGRAMS, RUN, SERVER, variants

YES = {
    "is_integer": (0, 1, -1, BIG, -BIG),
    "is_number": (0, 1, 7, BIG),
    "is_name": ("a", "z", "kid", "go", "none", "abcdefgh", "zzzzzzzz"),
    "is_pair": (("none", "none"), ("none", "open"), ("open", "marked"), ("marked", "none")),
    "is_begin": (("open", "open"), ("open", "marked"), ("marked", "open"), ("marked", "marked")),
    "is_asides": ((), (("copy", "a"),), (("start", "a"),), (("copy", "a"), ("copy", "b"), ("start", "a")),
                  (("copy", "a"), ("copy", "aa")), (("copy", "z"), ("start", "a"))),
    "is_instruction": (
        ("go", (0,)), ("go", (0, 1)), ("go", (3, 17, BIG)), ("copy", "a", 0), ("start", "abcdefgh", BIG),
        ("mark", "r", 0), ("mark", "w", 9), ("close", "r", 1), ("close", "w", BIG), ("read", 0), ("write", 5),
        ("wait", BIG), ("stay",), ("end",)),
    "is_role": (MAIN, KID, SERVER, ("a", (("end",),), (("copy", "nobody"), ("start", "nobody"))),
                ("copy", (("read", 99),), ())) + JOINS[1],
    "is_step": ((0, "go", 0), (BIG, "go", BIG), (0, "aside", 0), (3, "aside", 2), (0, "copy", -1), (0, "start", -1),
                (1, "mark", -1), (1, "close", -1), (2, "read", -1), (2, "write", -1), (2, "wait", -1),
                (9, "end", -1)) + RUN,
}
NO = {
    "is_integer": (True, False, None, "1", "", (1,), [1], ()),
    "is_number": (-1, -BIG, True, False, None, "0", (0,), [0]),
    "is_name": ("", "abcdefghi", "A", "aB", "a1", "a b", " a", "a ", "a_", "a\n", "a-b", 1, None, True, ("a",), ["a"]),
    "is_pair": (("open",), ("open", "open", "open"), ["open", "open"], ("open", "closed"), ("", "open"),
                ("open", None), ("open", True), (("open",), "open"), (["open"], "open"), "open", ()),
    "is_begin": (("none", "open"), ("open", "none"), ("none", "none"), ["open", "open"], ("open",),
                 ("open", "open", "open"), ("marked", ["open"])),
    "is_asides": ([], None, "", (("copy", "b"), ("copy", "a")), (("copy", "a"), ("copy", "a")),
                  (("start", "a"), ("copy", "b")), (("go", "a"),), (("copy", "A"),), (("copy",),), (["copy", "a"],),
                  [("copy", "a")], (("copy", "a", 0),), ("copy", "a"), (("aside", "a"),), ((1, "a"),), (0, 1),
                  (("copy", 1),)),
    "is_instruction": (
        (), ("go",), ("go", ()), ("go", 0), ("go", [0]), ["go", (0,)], ("go", (1, 0)), ("go", (0, 0)), ("go", (-1,)),
        ("go", (True,)), ("go", (0, True)), ("go", (0, "1")), ("go", (0,), 1), ("go", ("a", "b")), ("copy", "a"),
        ("copy", "A", 0), ("copy", "a", -1), ("copy", "a", True), ("copy", "a", 0, 0), ("copy", 0, "a"),
        ("start", None, 0), ("mark", "r"), ("mark", "x", 0), ("mark", "rw", 0), ("mark", "", 0), ("mark", 0, 0),
        ("close", "w", False), ("close", ["w"], 0), ("read",), ("read", "0"), ("read", -1), ("read", 0, 0),
        ("write", None), ("wait", (0,)), ("stay", 0), ("end", 0), "stay", "end", ("aside", 0), ("born", "a", 0),
        (None,), (0,), (("stay",),), ["stay"], None, 1),
    "is_role": (
        ("A", (("end",),), ()), ("a", (), ()), ("a", [("end",)], ()), ("a", (("end",),), []), ("a", (("end",),)),
        ("a", (("end",),), (), ()), ["a", (("end",),), ()], ("a", ("end",), ()), ("a", (["end"],), ()),
        ("a", (("read", True),), ()), ("a", (("end",),), (("start", "a"), ("copy", "a"))), (1, (("end",),), ()),
        ("a", None, ()), ("a", (("end",),), None)),
    "is_step": (
        (0, "stay", -1), (0, "stay", 0), (0, "go", -1), (0, "aside", -1), (0, "end", 0), (0, "copy", 0),
        (0, "read", -2), (0, "go", -2), (-1, "end", -1), (True, "end", -1), (0, "go", True), (0, "go", False),
        (0, "end"), (0, "end", -1, -1), [0, "end", -1], (0, ["end"], -1), (0, "go", (0,)), (0, "", -1),
        (0, None, -1), (0, "end", None), ("0", "end", -1), (None, "end", -1), (0, "begin", -1), (), "end"),
}
FUNCTIONS = tuple(YES)


class Kinds(Case):
    def assert_told(self, name, thing, wanted):
        function = getattr(kinds, name)
        before = repr(thing)
        self.assertIs(function(thing), wanted, (name, thing))
        self.assertIs(function(thing=thing), wanted)
        self.assertEqual(repr(thing), before)

    def test_words(self):
        self.assert_same(kinds.ENDS, ("r", "w"))
        self.assert_same(kinds.HOLDS, ("none", "open", "marked"))
        self.assert_same(kinds.WAYS, ("own", "stays", "joins"))
        self.assert_same(kinds.HARMS, ("own", "stays", "joins", "deaf", "mute", "unheard", "kept"))

    def test_what_is_such(self):
        for name in FUNCTIONS:
            for thing in YES[name]:
                self.assert_told(name, thing, True)
                self.assertTrue(oracle.is_form(name, thing), (name, thing))

    def test_what_is_not(self):
        for name in FUNCTIONS:
            for thing in NO[name]:
                self.assert_told(name, thing, False)
                self.assertFalse(oracle.is_form(name, thing), (name, thing))

    def test_values_of_any_kind(self):
        things = ODD + tuple(thing for name in FUNCTIONS for thing in YES[name] + NO[name])
        for name in FUNCTIONS:
            for thing in things:
                self.assert_told(name, thing, oracle.is_form(name, thing))

    def test_values_with_one_difference(self):
        seen = 0
        for name in FUNCTIONS:
            for value in YES[name]:
                for thing in variants(value):
                    wanted = oracle.is_form(name, thing)
                    self.assertIs(getattr(kinds, name)(thing), wanted, (name, thing))
                    seen += 1
        self.assertGreater(seen, 10000)

    def test_forms_within_whole_programs(self):
        for program in PROGRAMS:
            for role in program[1]:
                self.assert_told("is_role", role, True)
                self.assert_told("is_asides", role[2], True)
                for instruction in role[1]:
                    self.assert_told("is_instruction", instruction, True)
            self.assert_told("is_begin", program[0], True)

    def test_objects_of_the_package(self):
        program = Program(*PROGRAM)
        for name in FUNCTIONS:
            self.assert_told(name, program, False)
            self.assertIs(getattr(kinds, name)((program, program, program)), False)

    def test_names_of_all_lengths(self):
        for many in range(12):
            for letter in "az":
                self.assert_told("is_name", letter * many, 1 <= many <= 8)
        for k in range(32, 127):
            self.assert_told("is_name", "a" + chr(k), "a" <= chr(k) <= "z")
            self.assert_told("is_name", chr(k), "a" <= chr(k) <= "z")

    def test_deep_and_long_values(self):
        deep = ()
        for _ in range(30):
            deep = (deep,)
        for thing in (deep, (0,) * 5000, ("go", tuple(range(5000))), "a" * 4000, [[]] * 5000):
            for name in FUNCTIONS:
                self.assertIs(getattr(kinds, name)(thing), name == "is_instruction" and thing[:1] == ("go",))
        self.assertIs(kinds.is_role(("a", (("stay",),) * 5000, ())), True)


if __name__ == "__main__":
    unittest.main()
