"""Texts written (points 12, 17 and 18)."""

import unittest

from keptends.errors import NotUsable
from keptends.programreadings import read_instruction, read_program
from keptends.programtexts import instruction_text, program_text
from tests import oracle
from tests.checks import Case
from tests.samples import BIG, BREED, JOINS, MAIN, ODD, PROGRAM, PROGRAMS, SERVER, random_programs, variants

BOTH = ("open", "open")
END = (("end",),)
NUMBERS = (0, 1, 9, 10, 100, 10 ** 59, BIG, 123456789012345678901234567890)
# By form alone: targets beyond, births of nobody, a name twice.
NO_PROGRAMS = (
    (BOTH, (MAIN,)),
    (("marked", "open"), (("a", (("read", 7), ("go", (0, BIG))), ()),)),
    (BOTH, (("a", END, (("copy", "nobody"),)), ("a", END, ()))),
    (BOTH, (SERVER, SERVER, SERVER)))
MANY = PROGRAMS + NO_PROGRAMS + tuple(random_programs(17, 200))
NO_INSTRUCTIONS = [thing for thing in ODD if not oracle.is_form("is_instruction", thing)] + [
    ("go", ()), ("go", (1, 1)), ("go", (2, 1)), ("go", [1]), ("copy", "a"), ("mark", "x", 0), ("read", True),
    ("read", -1), ("stay", 0), ("aside", "copy", "a"), "stay"]


def is_writable(thing):
    """Whether a value is a pair of a begin and a nonempty tuple of roles by form."""
    if not isinstance(thing, tuple) or len(thing) != 2 or not isinstance(thing[1], tuple) or not thing[1]:
        return False
    return oracle.is_form("is_begin", thing[0]) and all(oracle.is_form("is_role", role) for role in thing[1])


def by_hand(program):
    """A program as a text."""
    lines = [("begin",) + program[0]]
    for name, places, asides in program[1]:
        lines.append(("role", name))
        lines.extend(("go", str(place[1]).strip("(,)").replace(" ", "")) if place[0] == "go" else place for place in places)
        lines.extend(("aside",) + aside for aside in asides)
    return "\n".join(" ".join(map(str, line)) for line in lines)


class InstructionText(Case):
    def test_all_words(self):
        for n in NUMBERS:
            for instruction, text in (
                    (("go", (n,)), f"go {n}"), (("copy", "kid", n), f"copy kid {n}"),
                    (("start", "abcdefgh", n), f"start abcdefgh {n}"), (("mark", "r", n), f"mark r {n}"),
                    (("mark", "w", n), f"mark w {n}"), (("close", "r", n), f"close r {n}"),
                    (("close", "w", n), f"close w {n}"), (("read", n), f"read {n}"), (("write", n), f"write {n}"),
                    (("wait", n), f"wait {n}"), (("stay",), "stay"), (("end",), "end")):
                self.assert_same(instruction_text(instruction), text)
                self.assert_same(instruction_text(instruction=instruction), text)
                self.assert_same(read_instruction(text), instruction)

    def test_many_targets(self):
        self.assert_same(instruction_text(("go", (0, 2))), "go 0,2")
        self.assert_same(instruction_text(("go", (0, 10))), "go 0,10")
        self.assert_same(instruction_text(("go", tuple(sorted(NUMBERS)))),
                         "go " + ",".join(map(str, sorted(NUMBERS))))

    def test_errors(self):
        self.assert_order(NotUsable, instruction_text, {"instruction": ("stay",)}, {"instruction": NO_INSTRUCTIONS})

    def test_instructions_with_one_difference(self):
        for program in PROGRAMS:
            for role in program[1]:
                for instruction in role[1]:
                    for thing in variants(instruction):
                        if oracle.is_form("is_instruction", thing):
                            self.assert_same(read_instruction(instruction_text(thing)), thing)
                        else:
                            self.assert_error(NotUsable, {"word": "instruction", "at": -1}, instruction_text, thing)


class ProgramText(Case):
    def test_by_hand(self):
        self.assert_same(program_text((("open", "marked"), (SERVER,))), "begin open marked\nrole server\nstay")
        self.assert_same(program_text(PROGRAM), (
            "begin open open\nrole main\ncopy kid 1\nclose w 2\nread 3\nend\n"
            "role kid\nstart server 1\nclose r 2\nwrite 3\nend\nrole server\nstay"))
        self.assert_same(program_text(program=BREED), (
            "begin marked open\nrole a\ngo 0,1,2,3\ncopy b 0\nstart a 4\nmark w 0\nwait 5\nend\n"
            "aside copy b\naside start a\naside start b\nrole b\ngo 1,2,3,4\nwrite 0\nread 5\nclose r 0\nclose w 0\nend\n"
            "aside start c\nrole c\ngo 1,2\nstay\nend"))

    def test_programs_and_what_is_none(self):
        for program in MANY:
            before = repr(program)
            self.assert_same(program_text(program), by_hand(program))
            self.assertEqual(repr(program), before)

    def test_values_with_one_difference(self):
        for program in (PROGRAM, JOINS) + NO_PROGRAMS:
            for thing in variants(program):
                if is_writable(thing):
                    self.assert_same(program_text(thing), by_hand(thing))
                    self.assert_same(read_program(program_text(thing)), thing)
                else:
                    self.assert_error(NotUsable, {"word": "program", "at": -1}, program_text, thing)

    def test_errors(self):
        self.assert_order(NotUsable, program_text, {"program": PROGRAM}, {"program": [
            thing for thing in ODD if thing != PROGRAM] + [
                (BOTH, ()), (BOTH, [SERVER]), ("none", (SERVER,)), (("none", "open"), (SERVER,)),
                (BOTH, (SERVER, ("A", END, ()))), (BOTH, (SERVER,), ()), (["open", "open"], (SERVER,))]})


class ThereAndBack(Case):
    def test_what_is_read_of_a_written_value_is_equal_to_it(self):
        for program in MANY:
            self.assert_same(read_program(program_text(program)), program)
            for role in program[1]:
                for instruction in role[1]:
                    self.assert_same(read_instruction(instruction_text(instruction)), instruction)

    def test_two_values_have_one_text_only_if_they_are_equal(self):
        values = {}
        for program in PROGRAMS + NO_PROGRAMS:
            for thing in variants(program, (0, 1, 11, "a", "b", "copy", "r", "open", ("stay",), ())):
                if is_writable(thing):
                    self.assert_same(values.setdefault(program_text(thing), thing), thing)
        self.assertGreater(len(values), 500)

    def test_a_text_that_can_be_read_is_what_is_written_of_it(self):
        for text in (program_text(program) for program in MANY):
            self.assert_same(program_text(read_program(text)), text)


if __name__ == "__main__":
    unittest.main()
