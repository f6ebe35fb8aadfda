"""Reading of texts (points 2, 17 and 18)."""

import random
import unittest

from keptends.errors import InvalidText, NotUsable
from keptends.programreadings import read_instruction, read_program
from keptends.programtexts import instruction_text, program_text
from tests import oracle
from tests.checks import Case
from tests.samples import BIG, BREED, JOINS, PROGRAM, PROGRAMS, SERVER, random_programs

LINES = (
    "go 0", "go 0,2", "go 1,10,100", "go " + str(BIG), "copy kid 1", "start server 0", "mark w 1", "mark r 12", "close r 2",
    "close w 0", "read 3", "write 3", "wait 3", "stay", "end")
WORDS = (
    "", "go", "copy", "start", "mark", "close", "read", "write", "wait", "stay", "end", "aside", "role", "begin", "open",
    "marked", "none", "r", "w", "rw", "a", "kid", "Kid", "abcdefgh", "abcdefghi", "0", "1", "00", "01", "-1", "+1", "1.0",
    "1,2", "2,1", "1,1", "1,", ",1", "1,,2", ",", "0,01", "-", "\n", "1\n", "kid\n", "stay\n", str(BIG), str(BIG + 1),
    "0" * 60, "1" * 61, "0," + str(BIG), "0," + str(BIG + 1), str(BIG - 1) + "," + str(BIG), "1_0", "None", "a,b", "()", "'")
TEXTS = [program_text(program) for program in PROGRAMS] + [
    program_text((("open", "open"), (("a", (("read", 7),), ()), ("a", (("copy", "nobody", 0),), (("copy", "nobody"),))))),
    "begin marked marked\nrole a\nstay\naside copy b\naside copy c\naside start a\nrole b\nend\naside start zz"]


def changed(parts, others):
    """All rows of parts with one left out, doubled, put in, exchanged with another or its neighbour, or joined to it."""
    for k in range(len(parts)):
        yield parts[:k] + parts[k + 1:]
        yield parts[:k] + parts[k:k + 1] * 2 + parts[k + 1:]
        yield parts[:k] + parts[k + 1:k + 2] + parts[k:k + 1] + parts[k + 2:]
        yield parts[:k] + ["".join(parts[k:k + 2])] + parts[k + 2:]
        for other in others:
            yield parts[:k] + [other] + parts[k + 1:]
    for k in range(len(parts) + 1):
        for other in others:
            yield parts[:k] + [other] + parts[k:]


class Reading(Case):
    def assert_line(self, text, line=0):
        """The text is read as an instruction, or refused, as the second telling has it."""
        field = oracle.line_fault(text, oracle.INSTRUCTIONS)
        if field is None:
            found = read_instruction(text, line=line)
            self.assertTrue(oracle.is_form("is_instruction", found), text)
            self.assert_same(instruction_text(found), text)
        else:
            self.assert_error(InvalidText, {"line": line, "field": field}, read_instruction, text, line=line)

    def assert_program(self, text):
        """The text is read as a program, or refused, as the second telling has it."""
        fault = oracle.program_fault(text)
        if fault is None:
            self.assert_same(program_text(read_program(text)), text)
        else:
            self.assert_error(InvalidText, {"line": fault[0], "field": fault[1]}, read_program, text)

    def assert_refused(self, text, line, field):
        self.assert_error(InvalidText, {"line": line, "field": field}, read_program, text)
        self.assert_error(InvalidText, {"line": line, "field": field}, read_program, text=text)
        self.assertEqual(oracle.program_fault(text), (line, field))


class Instructions(Reading):
    def test_lines(self):
        for text in LINES:
            self.assert_same(instruction_text(read_instruction(text)), text)
        self.assert_same(read_instruction("close w 3"), ("close", "w", 3))
        self.assert_same(read_instruction(text="go 0,10", line=5), ("go", (0, 10)))
        self.assert_same(read_instruction("go 7"), ("go", (7,)))
        self.assert_same(read_instruction("copy go 0"), ("copy", "go", 0))

    def test_numbers(self):
        for digits in (1, 2, 59, 60):
            self.assert_same(read_instruction("read " + "9" * digits), ("read", 10 ** digits - 1))
            self.assert_same(read_instruction("go 0," + "9" * digits), ("go", (0, 10 ** digits - 1)))
        for odd in ("9" * 61, "0" * 60, "00", "07", "-0", "-1", "+1", " 1", "1 ", "1_000", "0x1", "1.0", "", "a", "1,2"):
            for head in ("read", "write", "wait"):
                self.assert_line(head + " " + odd)
                self.assertEqual(oracle.line_fault(head + " " + odd, oracle.INSTRUCTIONS), 2 if odd == "1 " else 1)

    def test_fields_by_hand(self):
        for text, field in (
                ("", 0), (" ", 0), (" stay", 0), ("Stay", 0), ("stop", 0), ("aside copy a", 0), ("role a", 0),
                ("begin open open", 0), ("stay ", 1), ("end 0", 1), ("stay\n", 0), ("\nstay", 0), ("stay\nstay", 0), ("go", 1),
                ("go ", 1), ("go 1,1", 1), ("go 2,1", 1), ("go 1,", 1), ("go ,1", 1), ("go 1, 2", 1), ("go 1 2", 2),
                ("go 01", 1), ("go 0,2,1 9", 1), ("go 1\n", 1), ("copy", 1), ("copy 1", 1), ("copy kid", 2),
                ("copy kid ", 2), ("copy kid x", 2), ("copy kid 1 1", 3), ("copy  kid 1", 1), ("copy Kid", 1),
                ("copy abcdefghi 0", 1), ("start kid\n 0", 1), ("mark", 1), ("mark x", 1), ("mark x 0", 1), ("mark w", 2),
                ("mark w w", 2), ("mark w 0 0", 3), ("close rw 0", 1), ("close r 00", 2), ("read", 1), ("read x", 1),
                ("read 0 ", 2), ("write 0 0", 2), ("wait 0\n", 1), ("read\n0", 0)):
            for line in (0, 4, BIG):
                self.assert_error(InvalidText, {"line": line, "field": field}, read_instruction, text, line=line)
            self.assert_error(InvalidText, {"line": 0, "field": field}, read_instruction, text)
            self.assert_error(InvalidText, {"line": 3, "field": field}, read_instruction, line=3, text=text)
            self.assertEqual(oracle.line_fault(text, oracle.INSTRUCTIONS), field, text)

    def test_lines_with_one_difference(self):
        for text in LINES:
            for words in changed(text.split(" "), WORDS):
                self.assert_line(" ".join(words))
                self.assert_line("  ".join(words), line=2)
            for k in range(len(text) + 1):
                for sign in " \n,0a-":
                    self.assert_line(text[:k] + sign + text[k:])
                self.assert_line(text[:k] + text[k + 1:])

    def test_lines_with_two_differences(self):
        rng = random.Random(18)
        for text in LINES:
            for words in changed(text.split(" "), WORDS):
                for twice in rng.sample(list(changed(words, WORDS)) or [words], 1):
                    self.assert_line(" ".join(twice), line=1)

    def test_not_usable(self):
        no_texts = [None, True, False, 0, 1, -1, (), [], ("stay",), ["stay"], ("s", "t")]
        no_lines = [None, True, False, -1, "0", (), [], (0,), [0], -BIG]
        for text in ("stay", "stop"):
            for odd in no_lines:
                self.assert_error(NotUsable, {"word": "line", "at": -1}, read_instruction, text, line=odd)
        for odd in no_texts:
            self.assert_error(NotUsable, {"word": "text", "at": -1}, read_program, odd)
        self.assert_order(NotUsable, read_instruction, {"text": "stay", "line": 0},
                          {"text": no_texts, "line": no_lines}, ("line",))
        with self.assertRaises(TypeError):
            read_instruction("stay", 0)


class Programs(Reading):
    def test_by_hand(self):
        self.assert_same(read_program("begin open open\nrole a\nread 7"), (("open", "open"), (("a", (("read", 7),), ()),)))
        self.assert_same(read_program("begin open marked\nrole server\nstay"), (("open", "marked"), (SERVER,)))
        self.assert_same(read_program("begin marked open\nrole a\nend\nrole a\nend\nstay\naside copy x\naside start a"), (
            ("marked", "open"), (("a", (("end",),), ()), ("a", (("end",), ("stay",)), (("copy", "x"), ("start", "a"))))))
        self.assert_same(read_program(text=program_text(PROGRAM)), PROGRAM)

    def test_lines_and_fields_by_hand(self):
        head = "begin open open\nrole a\nend\n"
        for text, line, field in (
                ("", 0, 0), ("\n", 0, 0), ("begin", 0, 1), ("begin open", 0, 2), ("begin none open", 0, 1),
                ("begin open none", 0, 2), ("begin open open open", 0, 3), ("begin  open open", 0, 1), ("role a", 0, 0),
                ("begin open open", 1, 0), ("begin open open\n", 1, 0), ("begin open open\nstay", 1, 0),
                ("begin open open\nbegin open open", 1, 0), ("begin open open\naside copy a", 1, 0),
                ("begin open open\nrole", 1, 1), ("begin open open\nrole ", 1, 1), ("begin open open\nrole A", 1, 1),
                ("begin open open\nrole a b", 1, 2), ("begin open open\nrole a", 2, 0), ("begin open open\nrole a\n", 2, 0),
                ("begin open open\nrole a\nrole b", 2, 0), ("begin open open\nrole a\naside copy a", 2, 0),
                ("begin open open\nrole a\nbegin open open", 2, 0), (head, 3, 0), (head + "begin open open", 3, 0),
                (head + "role b", 4, 0), (head + "role b\nrole c\nend", 4, 0), (head + "stay 1", 3, 1),
                (head + "aside", 3, 1), (head + "aside go a", 3, 1), (head + "aside copy", 3, 2),
                (head + "aside copy A", 3, 2), (head + "aside copy a 0", 3, 3), (head + "aside copy a\nend", 4, 0),
                (head + "aside copy a\n", 4, 0), (head + "aside copy a\nrole b", 5, 0), ("\n" + head[:-1], 0, 0)):
            self.assert_refused(text, line, field)

    def test_asides_that_do_not_ascend(self):
        head = "begin open open\nrole a\nend\naside start m\n"
        for text, field in (
                ("aside copy z", 1), ("aside copy", 1), ("aside copy ", 1), ("aside copy Z", 1), ("aside copy z z", 1),
                ("aside start m", 2), ("aside start a", 2), ("aside start", 2), ("aside start ", 2), ("aside start M", 2),
                ("aside start m m", 2), ("aside start a 1 2", 2), ("aside start z z", 3), ("aside begin z", 1),
                ("aside", 1), ("aside a", 1), ("aside  start z", 1)):
            self.assert_refused(head + text, 4, field)
            self.assert_refused(head + text + "\nnothing", 4, field)
        for text in ("aside start n", "aside start ma", "aside start z\naside start zz"):
            self.assert_program(head + text)
            self.assertIsNone(oracle.program_fault(head + text))
        # Asides of another role begin anew.
        self.assert_same(read_program(head + "role b\nend\naside copy a")[1][1][2], (("copy", "a"),))

    def test_texts_with_one_line_changed(self):
        others = ["", "nothing", "begin open open", "begin marked open", "role a", "role", "stay", "go 1", "go 1,0", "aside copy a",
                  "aside start z", "aside copy", "aside", "read x", "stay ", " "]
        for text in TEXTS:
            self.assert_program(text)
            for lines in changed(text.split("\n"), others):
                self.assert_program("\n".join(lines))
            for ends in (text + "\n", "\n" + text, "\n" + text + "\n", text + "\n\n", text + " ", text.replace("\n", "\n\n", 1)):
                self.assert_program(ends)
                self.assertIsNotNone(oracle.program_fault(ends))

    def test_texts_with_one_word_changed(self):
        rng = random.Random(181)
        for text in TEXTS:
            lines = text.split("\n")
            for k, line in enumerate(lines):
                all_words = list(changed(line.split(" "), WORDS))
                for words in rng.sample(all_words, min(len(all_words), 120)):
                    self.assert_program("\n".join(lines[:k] + [" ".join(words)] + lines[k + 1:]))

    def test_texts_with_one_character_less_or_more(self):
        for text in (program_text(PROGRAM), program_text(JOINS), program_text(BREED)):
            for k in range(len(text) + 1):
                self.assert_program(text[:k])
                self.assert_program(text[:k] + text[k + 1:])
                for sign in " \n0a":
                    self.assert_program(text[:k] + sign + text[k:])

    def test_asides_in_all_orders(self):
        pairs = [(word, name) for word in ("copy", "start") for name in ("a", "b")]
        for one in pairs:
            for other in pairs:
                for third in pairs:
                    rows = "".join(f"\naside {word} {name}" for word, name in (one, other, third))
                    self.assert_program("begin open open\nrole a\nend" + rows)

    def test_programs(self):
        for program in random_programs(182, 100):
            self.assert_same(read_program(program_text(program)), program)

    def test_a_long_text(self):
        program = (("open", "open"), (("a", (("stay",),) * 5000, ()), ("b", (("read", BIG),) * 3000, ())))
        self.assert_same(read_program(program_text(program)), program)


if __name__ == "__main__":
    unittest.main()
