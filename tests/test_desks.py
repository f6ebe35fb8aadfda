"""The desk (points 57, 60 to 63, 66 and 68)."""

import random
import unittest

from keptends.desks import Desk
from keptends.errors import InvalidEvent, InvalidRow, NotUsable, NothingToUndo
from keptends.houses import House
from keptends.housetexts import event_line, story_lines
from keptends.runtexts import step_text
from tests.checks import Case
from tests.fatesamples import SAFE
from tests.housesamples import FULL, HOUSES, STEPS, drawn_event, many_houses
from tests.houseoracle import Plain, event_fault, is_event
from tests.runsamples import NO_PROGRAMS
from tests.samples import KID, LATE, MAIN, ODD, PROGRAM, RUN
from tests.test_housetexts import ODD_PROGRAM
from tests.test_pictures import by_hand

ASKS = ("story", "next", "table", "careful", "waiting", "ways", "harms", "left", "shown", "tally", "holders r", "holders w")
# Rows that nobody knows.
NO_ROWS = ("", " ", "-", "Undo", "undo ", " undo", "undo undo", "undo 1", "bars", "bars ", "bars undo", "bars bars mark a", "bars  mark a",
           "bars mark", "bars step", "bars careful", "bars story", "step", "step 0", "step 0 stay", "step 0 go", "step 0 end -1", "mark",
           "mark A", "mark a b", "careful  on", "careful maybe", "careful On", "holders", "holders x", "holders  r", "holders r w",
           "holders R", "born", "born ", "born A", "born a b", "born abcdefghi", "story ", "story 0", "next next", "table\n", "\ntable",
           "Waiting", "way", "lefts", "ok", "house", "house on 1", "house off 3\nbegin open open\nrole a", "counts", "shown 1", "harms\n",
           "mark a\nmark b", "step 0 copy\n", "tally tally")


def story_row(program, careful):
    """The lines of a story without events."""
    return "\n".join(story_lines((("house", program, careful),)))


class Desks(Case):
    def test_the_example(self):
        desk = Desk(PROGRAM)
        self.assert_same(
            [desk.say(row) for row in ("step 0 copy", "bars step 0 copy", "step 1 start", "shown", "undo", "left", "holders w")],
            ["1", "word", "2", "2@kept", "step 1 start", "stays", "0 1"])

    def answers(self, plain):
        """What a desk has to answer to all that can be asked, by the second telling and by a house."""
        house = House(plain.program, careful=plain.first)
        house.do_all(*plain.events)
        world = plain.world()
        found = {
            "story": " / ".join(event_line(event) for event in plain.events),
            "next": " / ".join(step_text(step) for step in world.possible()),
            "table": " / ".join(by_hand(plain.program, plain.run())),
            "careful": plain.careful(),
            "waiting": " ".join(str(k) for k in world.waiting()),
            "ways": " ".join(world.ways()),
            "harms": " ".join(sorted(plain.shown())),
            "left": " ".join(house.ways_left()),
            "shown": " ".join(f"{first}@{harm}" for first, harm in sorted((first, harm) for harm, first in plain.shown().items())),
            "tally": " ".join(f"{word}@{many}" for word, many in plain.tally()),
            "holders r": " ".join(str(k) for k in world.holders("r")),
            "holders w": " ".join(str(k) for k in world.holders("w"))}
        for word, name in plain.events:
            if word == "mark":
                found["born " + name] = " ".join(str(k) for k in plain.born_since(name))
        return {row: answer or "-" for row, answer in found.items()}

    def assert_desk(self, desk, plain):
        counts = desk.counts()
        wanted = self.answers(plain)
        for row, answer in wanted.items():
            self.assert_same(desk.say(row), answer, row)
        self.assert_same(desk.counts(), (counts[0] + len(wanted), counts[1] + len(wanted)))

    def assert_refused(self, desk, error, fields, row):
        """A row that is refused counts, and changes nothing."""
        counts, story, careful = desk.counts(), desk.say("story"), desk.say("careful")
        self.assert_error(error, fields, desk.say, row)
        self.assert_error(error, fields, desk.say, row=row)
        self.assert_same((desk.say("story"), desk.say("careful")), (story, careful))
        self.assert_same(desk.counts(), (counts[0] + 6, counts[1] + 6))

    def test_drawn_rows(self):
        rng = random.Random(68)
        reasons = set()
        for program, _ in many_houses(68, 20):
            desk, plain = Desk(program), Plain(program)
            for _ in range(10):
                event = drawn_event(rng, plain)
                if not is_event(event):
                    continue
                reason = plain.reason(event)
                reasons.add(reason)
                self.assert_same(desk.say("bars " + event_line(event)), reason or "-")
                if rng.random() < 0.1 and plain.events:
                    self.assert_same(desk.say("undo"), event_line(plain.events.pop()))
                elif reason is None:
                    plain.do(event)
                    self.assert_same(desk.say(row=event_line(event)), str(len(plain.run())))
                else:
                    self.assert_refused(desk, InvalidEvent, {"event": event, "reason": reason}, event_line(event))
            self.assert_desk(desk, plain)
        self.assertLessEqual({None, "process", "word", "number", "read", "harm", "same", "twice"}, reasons)

    def test_each_row_at_first_and_at_last(self):
        for program in HOUSES:
            desk, plain = Desk(program), Plain(program)
            self.assert_same(desk.counts(), (0, 0))
            self.assert_desk(desk, plain)
            while plain.world().possible() and len(plain.events) < 12:
                step = plain.world().possible()[-1]
                self.assert_same(desk.say("step " + step_text(step)), str(len(plain.run()) + 1))
                plain.do(("step", step))
            self.assert_desk(desk, plain)

    def test_by_hand(self):
        desk = Desk(program=PROGRAM)
        self.assert_same([desk.say(row) for row in ASKS], [
            "-", "0 copy", " 0 main      -  0 oo copy", "off", "-", "-", "-", "stays", "-", "-", "0", "0"])
        self.assert_same([desk.say(row) for row in ("mark a", "careful on", "step 0 copy", "mark b", "bars step 1 start", "careful off")],
                         ["0", "0", "1", "1", "harm", "1"])
        for step in RUN[1:]:
            desk.say("step " + step_text(step))
        self.assert_same([desk.say(row) for row in ASKS], [
            "mark a / careful on / step 0 copy / mark b / careful off / step 1 start / step 0 close / step 1 close / step 1 write / step 1 end",
            "-", " 0 main      -  2 o- read waits /  1 kid       0  3 -- ended /  2 server    1  0 oo stay", "off", "0", "stays",
            "kept stays", "stays", "2@kept 3@stays", "close@2 copy@1 end@1 start@1 write@1", "0 2", "2"])
        self.assert_same([desk.say(row) for row in ("born a", "born b", "bars step 0 read", "bars mark a", "bars mark c", "undo")],
                         ["1 2", "2", "read", "twice", "-", "step 1 end"])

    def test_stories(self):
        desk = Desk(PROGRAM)
        desk.say("step 0 copy")
        for program in HOUSES + (SAFE,):
            for careful in ("on", "off"):
                counts = desk.counts()
                self.assert_same(desk.say(story_row(program, careful)), "ok")
                self.assert_same(desk.counts(), (counts[0] + 1, counts[1] + 1))
                self.assert_desk(desk, Plain(program, careful))
                desk.say("mark a")
        # With events, of no program, or by lines that are none, it is not known.
        for row in (story_row(PROGRAM, "on") + "\nmark a", story_row(PROGRAM, "on") + "\n", "\n" + story_row(PROGRAM, "on"),
                    story_row(ODD_PROGRAM, "on"), story_row((("open", "open"), (MAIN, KID)), "off"),
                    story_row(PROGRAM, "on").replace("house on", "house maybe"), story_row(PROGRAM, "on").replace("house on 1", "house on 2"),
                    "bars " + story_row(PROGRAM, "on"), story_row(LATE, "on")[:-1], story_row(LATE, "on") + "\nstep 0 copy"):
            self.assert_refused(desk, InvalidRow, {"row": row}, row)

    def test_rows_that_nobody_knows(self):
        desk = Desk(PROGRAM)
        desk.say("step 0 copy")
        desk.say("mark a")
        for row in NO_ROWS:
            self.assertTrue(event_fault(row) is not None)
            self.assert_refused(desk, InvalidRow, {"row": row}, row)
        for row in ASKS + ("undo", "mark b", "step 1 start", "born a", "bars mark a"):
            for changed in (row + " ", " " + row, row + "\n", row + " a b", row.upper(), row[:-1] + "$"):
                self.assert_refused(desk, InvalidRow, {"row": changed}, changed)

    def test_the_errors_of_the_house(self):
        desk = Desk(PROGRAM)
        self.assert_refused(desk, NothingToUndo, {"steps": 0}, "undo")
        self.assert_refused(desk, NotUsable, {"word": "name", "at": -1}, "born a")
        self.assert_refused(desk, InvalidEvent, {"event": ("careful", "off"), "reason": "same"}, "careful off")
        self.assert_refused(desk, InvalidEvent, {"event": ("step", (3, "aside", 0)), "reason": "process"}, "step 3 aside 0")
        for event in FULL[:40]:
            self.assert_same(desk.say(event_line(event)), "0")
        self.assert_same(desk.say("bars " + event_line(FULL[40])), "full")
        self.assert_refused(desk, InvalidEvent, {"event": FULL[40], "reason": "full"}, event_line(FULL[40]))
        self.assert_same(desk.say("undo"), event_line(FULL[39]))
        self.assert_same(desk.say("step 0 copy"), "1")

    def test_not_usable(self):
        desk = Desk(PROGRAM)
        for thing in [thing for thing in ODD if not isinstance(thing, str)] + [b"undo", STEPS[0], ["undo"]]:
            self.assert_refused(desk, NotUsable, {"word": "row", "at": -1}, thing)
        for program in NO_PROGRAMS:
            self.assert_error(NotUsable, {"word": "program", "at": -1}, Desk, program)
            self.assert_error(NotUsable, {"word": "program", "at": -1}, Desk, program=program)


if __name__ == "__main__":
    unittest.main()
