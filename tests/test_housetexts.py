"""Events and stories as lines, and their reading (points 31, 57, 66 and 67)."""

import random
import unittest

from keptends.errors import InvalidText, NotUsable
from keptends.housereadings import read_event, read_story
from keptends.houselogs import is_story
from keptends.housetexts import event_line, story_lines
from keptends.programreadings import read_program
from keptends.programtexts import program_text
from keptends.runtexts import step_text
from tests.checks import Case, outcome, raised
from tests.housesamples import EVENTS, NO_EVENTS, STEPS, led, many_houses
from tests.houseoracle import event_fault, is_event, story_fault
from tests.runsamples import STEPS as MANY_STEPS
from tests.samples import BIG, KID, MAIN, ODD, PROGRAM, SERVER, random_program
from tests.test_houselogs import NO_STORIES, STORY

EVENT_WORDS = ("", "step", "careful", "mark", "on", "off", "a", "kid", "abcdefghi", "A", "0", "1", "10", "01", "-1", "9" * 60, "9" * 61,
               "go", "aside", "copy", "read", "stay", "end", "undo", "house", "on\n", "a\n", "\n", "Step", "step\n", "1\n")
# A program by form that is none.
ODD_PROGRAM = (("open", "marked"), (("a", (("copy", "none", 7), ("go", (0, 9))), (("copy", "x"), ("start", "a"))), SERVER, SERVER))


def line_of(event):
    """The line of an event, as the second telling has it."""
    word, part = event
    if word == "step":
        part = " ".join(str(one) for one in part if one != -1)
    return word + " " + part


def lines_of(story):
    """The lines of a story."""
    lines = program_text(story[0][1]).split("\n")
    return [f"house {story[0][2]} {len(lines)}", *lines, *[line_of(event) for event in story[1:]]]


class Events(Case):
    def test_the_examples(self):
        self.assert_same(
            [event_line(("step", (1, "aside", 0))), story_lines((("house", (("open", "marked"), (SERVER,)), "off"), ("mark", "a")))],
            ["step 1 aside 0", ["house off 3", "begin open marked", "role server", "stay", "mark a"]])
        self.assert_error(InvalidText, {"line": 3, "field": 0}, read_story, ["house on 3", "begin open open", "role a"])

    def assert_written(self, event):
        """Written and read again it is equal, and so is the line."""
        line = event_line(event)
        self.assert_same(line, line_of(event))
        self.assert_same(event_line(event=event), line)
        self.assert_same(read_event(line), event)
        self.assert_same(read_event(text=line), event)
        self.assertIsNone(event_fault(line))

    def test_there_and_back(self):
        for event in EVENTS + STEPS + (("step", (BIG, "go", BIG)), ("step", (0, "aside", 10)), ("mark", "careful"), ("mark", "on")):
            self.assert_written(event)
        many = 0
        for step in MANY_STEPS:
            if is_event(("step", step)):
                many += 1
                self.assert_same(event_line(("step", step)), "step " + step_text(step))
                self.assert_written(("step", step))
        self.assertGreater(many, 50)

    def assert_read(self, text):
        """read_event tells of any string what the second telling does."""
        field = event_fault(text)
        found = outcome(read_event, {"text": text})
        if field is None:
            self.assert_same(event_line(found[1]), text)
        else:
            self.assert_same(found, raised("InvalidText", 0, field), text)
        return field

    def test_all_short_lines(self):
        fields = set()
        for one in EVENT_WORDS:
            fields.add(self.assert_read(one))
            for two in EVENT_WORDS:
                fields.add(self.assert_read(one + " " + two))
                for three in EVENT_WORDS:
                    if one in ("step", "careful", "mark"):
                        fields.add(self.assert_read(" ".join((one, two, three))))
        self.assertLessEqual({None, 0, 1, 2, 3}, fields)

    def test_longer_lines(self):
        rng = random.Random(66)
        fields = set()
        for _ in range(4000):
            words = ["step", rng.choice(("0", "1", "01", "")), rng.choice(("go", "aside", "copy", "stay"))]
            words += [rng.choice(EVENT_WORDS) for _ in range(rng.randint(0, 3))]
            fields.add(self.assert_read(" ".join(words)))
        self.assertLessEqual({None, 1, 2, 3, 4}, fields)

    def test_words_left_out_doubled_and_changed(self):
        for event in EVENTS:
            words = event_line(event).split(" ")
            for k in range(len(words)):
                for changed in (words[:k] + words[k + 1:], words[:k] + [words[k]] + words[k:], words[:k] + [""] + words[k:],
                                words[:k] + [words[k] + "\n"] + words[k + 1:], words[:k] + [words[k].upper() + "x"] + words[k + 1:]):
                    self.assert_read(" ".join(changed))
            self.assert_read(event_line(event) + " ")
            self.assert_read(" " + event_line(event))
            self.assert_read(event_line(event) + "\n")

    def test_not_usable(self):
        for thing in NO_EVENTS + (object(), b"step 0 end"):
            self.assert_error(NotUsable, {"word": "event", "at": -1}, event_line, thing)
        for thing in [thing for thing in ODD if not isinstance(thing, str)] + [b"mark a", ("mark", "a"), ["mark a"]]:
            self.assert_error(NotUsable, {"word": "text", "at": -1}, read_event, thing)


class Stories(Case):
    def assert_written(self, story):
        before = repr(story)
        lines = story_lines(story)
        self.assertIs(type(lines), list)
        self.assert_same(lines, lines_of(story))
        self.assert_same(story_lines(story=story), lines)
        self.assert_same(read_story(lines), story)
        self.assert_same(read_story(lines=list(lines)), story)
        self.assertEqual(repr(story), before)
        lines.append("changed")
        self.assert_same(story_lines(story), lines[:-1])

    def test_there_and_back(self):
        rng = random.Random(661)
        for program, careful in many_houses(661, 15):
            self.assert_written(led(rng, program, careful, 10)[0].story())
        for story in (STORY, (("house", ODD_PROGRAM, "on"),), (("house", ODD_PROGRAM, "off"), *EVENTS, *STEPS)):
            self.assert_written(story)
        for _ in range(60):
            program = random_program(rng)
            events = rng.sample(EVENTS, rng.randint(0, 5))
            self.assert_written((("house", program, rng.choice(("on", "off"))), *events))
        self.assertIs(is_story((("house", ODD_PROGRAM, "on"),)), False)

    def assert_read(self, lines):
        """read_story tells of any list of strings what the second telling does."""
        before = repr(lines)
        fault = story_fault(lines)
        found = outcome(read_story, {"lines": lines})
        if fault is None:
            self.assert_same(story_lines(found[1]), lines)
            many = int(lines[0].split(" ")[2])
            self.assert_same(found[1][0][1], read_program("\n".join(lines[1:1 + many])))
        else:
            self.assert_same(found, raised("InvalidText", *fault), lines)
        self.assertEqual(repr(lines), before)
        return fault

    def test_lines_left_out_doubled_and_changed(self):
        faults = set()
        for story in (STORY + EVENTS, (("house", ODD_PROGRAM, "on"), ("mark", "a")), (("house", (("open", "open"), (SERVER,)), "on"),)):
            lines = story_lines(story)
            for k in range(len(lines) + 1):
                faults.add(self.assert_read(lines[:k]) is None)
                for changed in (lines[:k] + lines[k + 1:], lines[:k] + lines[k:k + 1] + lines[k:], lines[:k] + [""] + lines[k:],
                                lines[:k] + lines[k + 1:k + 2] + lines[k:k + 1] + lines[k + 2:], lines[:k] + ["mark z"] + lines[k:],
                                lines[:k] + ["end"] + lines[k:], lines[:k] + ["role z"] + lines[k:]):
                    faults.add(self.assert_read(changed) is None)
        self.assertEqual(faults, {True, False})

    def test_words_left_out_doubled_and_changed(self):
        lines = story_lines(STORY)
        for k, line in enumerate(lines):
            words = line.split(" ")
            for n in range(len(words) + 1):
                for changed in (words[:n] + words[n + 1:], words[:n] + words[n:n + 1] + words[n:], words[:n] + [""] + words[n:],
                                words[:n] + ["0"] + words[n + 1:], words[:n] + ["on"] + words[n + 1:], words[:n] + ["7"] + words[n + 1:]):
                    self.assert_read(lines[:k] + [" ".join(changed)] + lines[k + 1:])

    def test_the_number_of_lines(self):
        lines = story_lines(STORY)
        for number in [str(k) for k in range(20)] + ["00", "013", "-1", "9" * 60, "9" * 61, "", "a"]:
            for careful in ("on", "off", "", "maybe"):
                for there in (lines[1:], lines[1:14], lines[1:5], lines[1:3], lines[1:2], []):
                    self.assert_read([f"house {careful} {number}"] + there)

    def test_lines_of_the_program(self):
        # A line that is missing comes behind all that are there, in the order of the lines.
        for lines, line, field in (
                ([], 0, 0), ([""], 0, 0), (["house"], 0, 1), (["house on"], 0, 2), (["house on 0"], 0, 2), (["house on 1 "], 0, 3),
                (["house on 1"], 1, 0), (["house on 1", "begin open open"], 2, 0), (["house on 1", "begin open open", "mark a"], 2, 0),
                (["house on 2", "begin open open", "role a"], 3, 0), (["house on 2", "begin open open", "role a", "stay"], 3, 0),
                (["house on 9", "begin open open", "role a", "stay"], 4, 0), (["house on 9", "begin open", "role a"], 1, 2),
                (["house on 4", "begin open open", "role a", "stay", "mark a"], 4, 1), (["house on 3", "begin open open", "role a", "stay", "stay"], 4, 0),
                (["house on 5", "begin open open", "role a", "stay", "aside copy b", "aside copy a"], 5, 2),
                (["house on 3", "begin open open", "role a", "stay", "mark a", "mark"], 5, 1)):
            self.assert_error(InvalidText, {"line": line, "field": field}, read_story, lines)
            self.assertEqual(story_fault(lines), (line, field))

    def test_not_usable(self):
        for thing in [thing for thing in NO_STORIES if thing != (("house", (("open", "open"), (MAIN, KID)), "off"),)]:
            self.assert_error(NotUsable, {"word": "story", "at": -1}, story_lines, thing)
        lines = story_lines(STORY)
        for thing in [thing for thing in ODD if thing != [] and not isinstance(thing, list)] + [
                tuple(lines), "\n".join(lines), lines + [None], [0], [True], [lines], lines[:1] + [lines[1] + "\n"] + lines[2:], ["\n"],
                [b"house on 1"], ["house on 1", ("begin", "open", "open")]]:
            self.assert_error(NotUsable, {"word": "lines", "at": -1}, read_story, thing)


if __name__ == "__main__":
    unittest.main()
