"""Texts of steps and runs, written and read (points 2, 10, 23, 30 and 31)."""

import random
import re
import unittest

from keptends.errors import InvalidText, NotUsable
from keptends.runreadings import read_run, read_step
from keptends.runtexts import run_text, step_text
from tests import oracle
from tests.checks import Case
from tests.runsamples import FEW, many_runs
from tests.samples import BIG, ODD, RUN, variants
from tests.test_programreadings import WORDS, changed

NUMBERS = (0, 1, 9, 10, 100, 10 ** 59, BIG, 123456789012345678901234567890)
PLAIN = ("copy", "start", "mark", "close", "read", "write", "wait", "end")
NUMBERED = ("go", "aside")
# Steps by form, of no program.
STEPS = [(process, word, -1) for process in NUMBERS for word in PLAIN] + [
    (process, word, number) for process in NUMBERS for word in NUMBERED for number in NUMBERS]
NO_STEPS = [thing for thing in ODD if not oracle.is_form("is_step", thing)] + [
    (0, "stay", -1), (0, "go", -1), (0, "copy", 0), (-1, "end", -1), (True, "end", -1), (0, "aside", True), [0, "end", -1],
    (0, "end"), (0, "end", -1, -1), ("0", "end", -1), (0, "none", -1), "0 end"]
NO_TEXTS = [thing for thing in ODD if not isinstance(thing, str)] + [["0 end"], ("0 end",), RUN]


def by_hand(step):
    """A step as a line."""
    return " ".join(map(str, step[:2])) + (" " + str(step[2]) if step[1] in NUMBERED else "")


def step_fault(text):
    """The field that read_step has to tell of a text, or None."""
    words = text.split(" ")
    patterns = [oracle.WORD_NUMBER, "|".join(PLAIN + NUMBERED)]
    if len(words) > 1 and words[1] in NUMBERED:
        patterns.append(oracle.WORD_NUMBER)
    for k, pattern in enumerate(patterns):
        if k == len(words) or not re.fullmatch(pattern, words[k]):
            return k
    return len(patterns) if len(words) > len(patterns) else None


def run_fault(text):
    """The line and field that read_run has to tell of a text, or None."""
    if text == "-":
        return None
    for k, line in enumerate(text.split("\n")):
        if step_fault(line) is not None:
            return (k, step_fault(line))
    return None


class Writing(Case):
    def test_examples(self):
        self.assert_same(step_text((1, "aside", 0)), "1 aside 0")
        self.assert_same(run_text(RUN[:2]), "0 copy\n1 start")
        self.assert_same(run_text(()), "-")

    def test_all_words(self):
        for step in STEPS:
            self.assert_same(step_text(step), by_hand(step))
            self.assert_same(step_text(step=step), by_hand(step))
            self.assert_same(run_text((step,)), by_hand(step))
            self.assert_same(run_text(run=(step, step)), by_hand(step) + "\n" + by_hand(step))

    def test_steps_with_one_difference(self):
        for step in ((0, "copy", -1), (12, "go", 3), (BIG, "aside", BIG), (3, "end", -1)):
            for thing in variants(step):
                if oracle.is_form("is_step", thing):
                    self.assert_same(step_text(thing), by_hand(thing))
                    self.assert_same(run_text((thing,)), by_hand(thing))
                else:
                    self.assert_error(NotUsable, {"word": "step", "at": -1}, step_text, thing)
                    self.assert_error(NotUsable, {"word": "run", "at": -1}, run_text, (thing,))

    def test_errors(self):
        self.assert_order(NotUsable, step_text, {"step": (0, "end", -1)}, {"step": NO_STEPS})
        no_runs = [thing for thing in ODD if thing != ()] + [list(RUN), RUN[0], (RUN,), RUN + (None,), (list(RUN[0]),)]
        no_runs += [(thing,) for thing in NO_STEPS] + [RUN[:2] + (thing,) + RUN[2:] for thing in NO_STEPS]
        self.assert_order(NotUsable, run_text, {"run": RUN}, {"run": no_runs})


class Reading(Case):
    def assert_step(self, text):
        """The text is read as a step, or refused, as the second telling has it."""
        field = step_fault(text)
        if field is None:
            found = read_step(text)
            self.assertTrue(oracle.is_form("is_step", found), text)
            self.assert_same(by_hand(found), text)
            self.assert_same(read_step(text=text), found)
        else:
            self.assert_error(InvalidText, {"line": 0, "field": field}, read_step, text)
            self.assert_error(InvalidText, {"line": 0, "field": field}, read_step, text=text)

    def assert_run(self, text):
        """The text is read as a run, or refused, as the second telling has it."""
        fault = run_fault(text)
        if fault is None:
            found = read_run(text)
            self.assertIsInstance(found, tuple)
            self.assert_same("\n".join(map(by_hand, found)) or "-", text)
            self.assert_same(read_run(text=text), found)
        else:
            self.assert_error(InvalidText, {"line": fault[0], "field": fault[1]}, read_run, text)
            self.assert_error(InvalidText, {"line": fault[0], "field": fault[1]}, read_run, text=text)

    def test_examples(self):
        self.assert_same(read_run("0 go 2\n0 end"), ((0, "go", 2), (0, "end", -1)))
        self.assert_same(read_run("-"), ())
        self.assert_error(InvalidText, {"line": 0, "field": 2}, read_step, "0 go")

    def test_fields_by_hand(self):
        for text, field in (
                ("", 0), (" ", 0), ("-", 0), ("- ", 0), ("x", 0), ("-1 end", 0), ("00 end", 0), ("01 end", 0), (" 0 end", 0),
                ("0\nend", 0), ("\n0 end", 0), ("9" * 61 + " end", 0), ("0" * 60 + " end", 0), ("end", 0), ("go 0 1", 0),
                ("0", 1), ("0 ", 1), ("0  end", 1), ("0 stay", 1), ("0 End", 1), ("0 end\n", 1), ("0 end\n0 end", 1),
                ("0 -1", 1), ("0 asides 1", 1), ("0 1 go", 1), ("0 role 1", 1), ("0 end ", 2), ("0 end -1", 2),
                ("0 copy kid", 2), ("0 go", 2), ("0 go ", 2), ("0 go -1", 2), ("0 go x", 2), ("0 go 0,1", 2),
                ("0 aside 00", 2), ("0 aside " + "1" * 61, 2), ("0 go 1\n", 2), ("0 go  1", 2), ("0 go 1 ", 3),
                ("0 go 1 1", 3), ("0 aside 0 x", 3)):
            self.assert_error(InvalidText, {"line": 0, "field": field}, read_step, text)
            self.assertEqual(step_fault(text), field, text)

    def test_lines_by_hand(self):
        for text, line, field in (
                ("", 0, 0), ("\n", 0, 0), ("-\n", 0, 0), ("-\n-", 0, 0), ("\n-", 0, 0), (" -", 0, 0), ("- ", 0, 0),
                ("-\n0 end", 0, 0), ("0 end\n-", 1, 0), ("0 end\n", 1, 0), ("0 end\n\n0 end", 1, 0), ("\n0 end", 0, 0),
                ("0 end\n0 go", 1, 2), ("0 end\n0 stay\n0", 1, 1), ("0 end \n0 end", 0, 2), ("0 end\n0 end\n0 end 1", 2, 2)):
            self.assert_error(InvalidText, {"line": line, "field": field}, read_run, text)
            self.assertEqual(run_fault(text), (line, field), text)

    def test_steps_with_one_difference(self):
        words = WORDS + PLAIN + NUMBERED
        for step in STEPS[::7] + [(0, "go", 2), (0, "aside", 0), (12, "wait", -1)]:
            text = by_hand(step)
            self.assert_step(text)
            for parts in changed(text.split(" "), words):
                self.assert_step(" ".join(parts))
            for k in range(len(text) + 1):
                self.assert_step(text[:k] + text[k + 1:])
                for sign in " \n0a-":
                    self.assert_step(text[:k] + sign + text[k:])

    def test_steps_with_two_differences(self):
        rng = random.Random(31)
        for text in ("0 go 2", "1 aside 0", "12 close", "0 end"):
            for words in changed(text.split(" "), WORDS):
                for twice in rng.sample(list(changed(words, WORDS)) or [words], 1):
                    self.assert_step(" ".join(twice))

    def test_runs_with_one_line_changed(self):
        others = ["", "-", "0 end", "0 stay", "0 go", "0 go 1", "x", " ", "0 end ", "- -", "1 aside 00", "9" * 61 + " end"]
        texts = [run_text(run) for _, run in FEW] + [run_text(run) for _, run in many_runs(311, each=1, programs=15)] + ["-"]
        for text in texts:
            self.assert_run(text)
            for lines in changed(text.split("\n"), others):
                self.assert_run("\n".join(lines))
            for other in (text + "\n", "\n" + text, text + " ", " " + text, text.replace("\n", "\n\n", 1), text.replace(" ", "  ", 1)):
                self.assert_run(other)
                self.assertTrue(other == text or run_fault(other) is not None)

    def test_runs_with_one_word_changed(self):
        rng = random.Random(312)
        for _, run in FEW:
            lines = run_text(run).split("\n")
            for k, line in enumerate(lines):
                for words in rng.sample(list(changed(line.split(" "), WORDS)), 60):
                    self.assert_run("\n".join(lines[:k] + [" ".join(words)] + lines[k + 1:]))

    def test_what_is_read_of_a_written_value_is_equal_to_it(self):
        for step in STEPS:
            self.assert_same(read_step(step_text(step)), step)
        for _, run in many_runs(30):
            self.assert_same(read_run(run_text(run)), run)
        rng = random.Random(301)
        for many in (0, 1, 2, 60, 3000):
            run = tuple(rng.choice(STEPS) for _ in range(many))
            self.assert_same(read_run(run_text(run)), run)

    def test_errors(self):
        self.assert_order(NotUsable, read_step, {"text": "0 end"}, {"text": NO_TEXTS})
        self.assert_order(NotUsable, read_run, {"text": "0 end"}, {"text": NO_TEXTS})


if __name__ == "__main__":
    unittest.main()
