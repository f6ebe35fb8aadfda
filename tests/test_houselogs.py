"""Stories of houses (points 57, 58, 60, 64 and 65)."""

import copy
import random
import unittest

from keptends.errors import InvalidEvent, NotUsable
from keptends.houselogs import is_story, replayed
from keptends.houses import House
from tests.checks import Case
from tests.housesamples import FULL, HOUSES, NO_EVENTS, STEPS, drawn_event, led, many_houses, reason_told
from tests.houseoracle import Plain, is_event
from tests.oracle import paper_fault
from tests.samples import KID, MAIN, ODD, PROGRAM, RUN, variants
from tests.test_houses import HouseCase

STORY = (("house", PROGRAM, "off"), STEPS[0], ("mark", "a"), ("careful", "on"))
# What is no story.
NO_STORIES = ODD + (
    (), ("house", PROGRAM, "off"), (("house", PROGRAM, "off", 0),), (("house", PROGRAM),), (("house", PROGRAM, "On"),),
    (("house", PROGRAM, True),), (["house", PROGRAM, "off"],), [("house", PROGRAM, "off")], (("House", PROGRAM, "off"),),
    (("house", (("open", "open"), (MAIN, KID)), "off"),), (("house", list(PROGRAM), "off"),), STORY[1:], STORY + (None,),
    STORY + (("step", (0, "copy", 0)),), STORY + (STORY[0],), list(STORY), ((("house", PROGRAM, "off"),),), (("house", "off", PROGRAM),))


def is_told(thing):
    """Whether any value is a story, as the second telling has it."""
    if type(thing) is not tuple or not thing or type(thing[0]) is not tuple or len(thing[0]) != 3:
        return False
    word, program, careful = thing[0]
    if repr(word) != "'house'" or repr(careful) not in ("'on'", "'off'"):
        return False
    return paper_fault(program) is None and all(is_event(event) for event in thing[1:])


class Stories(Case):
    def assert_story(self, thing):
        before = repr(thing)
        wanted = is_told(thing)
        self.assertIs(is_story(thing), wanted, thing)
        self.assertIs(is_story(thing=thing), wanted)
        self.assertEqual(repr(thing), before)
        return wanted

    def test_other_values(self):
        for thing in NO_STORIES + (object(), {}, b""):
            self.assertIs(self.assert_story(thing), False)
            self.assert_error(NotUsable, {"word": "story", "at": -1}, replayed, thing)
            self.assert_error(NotUsable, {"word": "story", "at": -1}, replayed, story=thing)

    def test_one_change_at_any_depth(self):
        rng = random.Random(65)
        found = 0
        for thing in rng.sample(list(variants(STORY, ODD + ("on", "off", "house", STEPS[1]))), 4000):
            found += self.assert_story(thing)
        self.assertGreater(found, 50)

    def test_events_by_form_possible_or_not_and_however_many(self):
        for events in ((), STEPS, STEPS[::-1], (("step", (99, "aside", 99)),) * 3, FULL * 3, (("careful", "off"),) * 2):
            for careful in ("on", "off"):
                self.assertIs(self.assert_story((("house", PROGRAM, careful), *events)), True)
        for event in NO_EVENTS:
            self.assertIs(self.assert_story((("house", PROGRAM, "on"), event)), False)
            self.assertIs(self.assert_story((("house", PROGRAM, "on"), STEPS[0], event, STEPS[1])), False)


class Replayed(HouseCase):
    def test_a_replayed_house_is_equal_and_new(self):
        rng = random.Random(651)
        for program, careful in many_houses(651, 20):
            house, plain = led(rng, program, careful, 14)
            story = house.story()
            kept = copy.deepcopy(story)
            for other in (replayed(story), replayed(story=kept)):
                self.assertIs(type(other), House)
                self.assertIsNot(other, house)
                self.assertIs(other == house, True)
                self.assert_same(other.counts(), (0, 0))
                self.assert_house(other, plain)
                self.assert_same(other.ways_left(), house.ways_left())
            self.assert_same(story, kept)
            # What happens in it then happens in it alone.
            if story[1:]:
                other.undo()
                self.assertIs(other == house, False)
                self.assert_same(house.story(), story)

    def test_the_first_error(self):
        rng = random.Random(652)
        reasons = set()
        for program, careful in many_houses(652, 20):
            plain, events, fault = Plain(program, careful), [], None
            for _ in range(8):
                event = drawn_event(rng, plain)
                if is_event(event):
                    events.append(event)
                    reason = plain.do(event)
                    if reason is not None and fault is None:
                        fault = (reason, event)
                        good = list(events[:-1])
            story = (("house", program, careful), *events)
            if fault is None:
                self.assert_same(replayed(story).story(), story)
            else:
                self.assert_same(reason_told(replayed, story), fault)
                reasons.add(fault[0])
                self.assert_same(replayed((story[0], *good)).story(), (story[0], *good))
        self.assertLessEqual({"word", "process", "same"}, reasons)

    def test_full(self):
        for many in (39, 40):
            self.assert_same(replayed((STORY[0], *FULL[:many])).story()[1:], FULL[:many])
        self.assert_error(InvalidEvent, {"event": FULL[40], "reason": "full"}, replayed, (STORY[0], *FULL))
        self.assert_error(InvalidEvent, {"event": FULL[39], "reason": "twice"}, replayed, (STORY[0], FULL[39], FULL[39], *FULL))

    def test_by_hand(self):
        house = replayed(STORY)
        self.assert_same((house.run_now, house.careful_now, house.born_since("a")), (RUN[:1], "on", ()))
        self.assert_error(InvalidEvent, {"event": STEPS[1], "reason": "harm"}, replayed, STORY + (STEPS[1],))
        self.assert_error(InvalidEvent, {"event": STEPS[1], "reason": "process"}, replayed, (STORY[0], STEPS[1], STEPS[0]))
        for program in HOUSES:
            self.assert_same(replayed((("house", program, "on"),)).story(), (("house", program, "on"),))


if __name__ == "__main__":
    unittest.main()
