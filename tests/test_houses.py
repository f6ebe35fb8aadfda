"""Live houses (points 5, 7, 8, 38, 57 and 59 to 64)."""

import copy
import random
import unittest

from keptends.errors import Broken, InvalidEvent, NotUsable, NothingToUndo
from keptends.hangings import first_shown, harms_shown, ways_at_end
from keptends.hangs import ways_of
from keptends.houses import House
from keptends.pictures import run_picture
from keptends.trees import holders_in, next_steps, tree_after, waiting_in
from tests.checks import Case
from tests.housesamples import EVENTS, FULL, HOUSES, NO_EVENTS, STEPS, drawn_event, led, many_houses, reason_told
from tests.houseoracle import Plain, is_event, ways_to_come
from tests.fatesamples import random_lines
from tests.harmsamples import many_few_runs, many_rounds
from tests.oracle import World, random_run
from tests.runsamples import NO_PROGRAMS
from tests.samples import BREED, CHOICE, ODD, PROGRAM, RUN, random_knots
from tests.test_pictures import by_hand

ALONE = (("open", "open"), (("a", (("go", (1, 2)), ("close", "w", 2), ("read", 2)), ()),))
OPERATIONS = ("happen", "+=", "name", "set")


def apply(house, event, way):
    """Let an event happen in one of the four ways that there are for it."""
    if way == "happen" or not is_event(event):
        return house.happen(event)
    if way == "+=":
        same = house
        same += event
        assert same is house
        return len(house)
    word, part = event
    if way == "set" and word == "careful":
        house.careful_now = part
        return len(house)
    return {"step": house.do_step, "careful": house.set_careful, "mark": house.mark}[word](part)


class HouseCase(Case):
    def assert_house(self, house, plain):
        """All that the house tells is what the second telling, and the functions for its run, tell."""
        program, run = plain.program, plain.run()
        self.assert_same((house.program_now, house.run_now, house.careful_now), (program, run, plain.careful()))
        self.assert_same(house.tree_now, plain.world().tree())
        self.assert_same(house.tree_now, tree_after(program, run))
        self.assert_same(house.next_now, next_steps(program, run))
        self.assert_same(house.waiting_now, waiting_in(program, run))
        self.assert_same(house.ways_now, ways_at_end(program, run))
        self.assert_same(house.harms_now, harms_shown(program, run))
        shown = plain.shown()
        self.assert_same(house.shown_now, tuple(sorted((first, harm) for harm, first in shown.items())))
        self.assert_same(house.shown_now, tuple(sorted((first_shown(program, run, harm), harm) for harm in house.harms_now)))
        for end in ("r", "w"):
            self.assert_same(house.holders(end), holders_in(program, run, end))
            self.assert_same(house.holders(end=end), plain.world().holders(end))
        self.assert_same(house.tally(), plain.tally())
        self.assert_same(house.table(), run_picture(program, run))
        self.assert_same(house.table(), by_hand(program, run))
        self.assert_same(house.story(), plain.story())
        self.assert_same(len(house), len(run))
        for k, row in enumerate(plain.world().tree()):
            self.assert_same(house[k], row)
            self.assertIs(k in house, True)
        self.assertIs(len(plain.world().processes) in house, False)
        for word, name in plain.events:
            if word == "mark":
                self.assert_same(house.born_since(name), plain.born_since(name))
                self.assert_same(house.born_since(name=name), plain.born_since(name))


class Led(HouseCase):
    def test_the_examples(self):
        house = House(PROGRAM)
        self.assert_same(
            [house.do_all(*[("step", step) for step in RUN[:2]]), house.mark("m"), house.do_step(RUN[2]), house.ways_now, house.shown_now],
            [2, 2, 3, ("stays",), ((2, "kept"), (3, "stays"))])
        self.assert_same(
            [house[1], house.holders("w"), house.undo(), house.set_careful("on"), [house.barred(("step", step)) for step in RUN[2:4]]],
            [("kid", 0, 1, "open", "open", True), (1, 2), ("step", (0, "close", -1)), 2, ["harm", None]])
        one = House(ALONE)
        self.assert_same([one.ways_left(), one.do_step((0, "go", 1)), one.ways_left()], [("own",), 1, ()])

    def test_drawn_events(self):
        rng = random.Random(61)
        reasons, ways = {}, {}
        for program, careful in many_houses(61, 25):
            house, plain = House(program, careful=careful), Plain(program, careful)
            self.assert_house(house, plain)
            for _ in range(rng.choice((6, 14, 24))):
                event, way = drawn_event(rng, plain), rng.choice(OPERATIONS)
                before = repr(event)
                story, reason = house.story(), plain.reason(event)
                self.assert_same(house.barred(event), reason)
                self.assert_same(house.barred(event=event), reason)
                plain.do(event)
                found = reason_told(apply, house, event, way)
                self.assert_same(found, ("value", len(plain.run())) if reason is None else (reason, event), (event, way))
                if reason is not None:
                    self.assert_same(house.story(), story)
                self.assertEqual(repr(event), before)
                reasons[reason] = reasons.get(reason, 0) + 1
                ways[way] = True
            self.assert_house(house, plain)
        self.assertEqual(set(reasons), {None, "shape", "process", "word", "number", "read", "wait", "harm", "same", "twice"}, reasons)
        self.assertEqual(set(ways), set(OPERATIONS))

    def test_all_is_told_behind_each_event(self):
        rng = random.Random(611)
        for program, careful in many_houses(611, 4):
            house, plain = House(program, careful=careful), Plain(program, careful)
            for _ in range(12):
                event = drawn_event(rng, plain)
                if plain.do(event) is None:
                    house += event
                    self.assert_house(house, plain)

    def test_operations_by_name(self):
        house = House(program=PROGRAM, careful="on")
        self.assert_same(house.careful_now, "on")
        self.assert_same([house.set_careful(word="off"), house.mark(name="a"), house.do_step(step=RUN[0]), house.happen(event=STEPS[1])],
                         [0, 0, 1, 2])
        self.assert_same(house.tried(), RUN[:2])
        self.assert_same(House(PROGRAM).careful_now, "off")
        self.assert_same(House.MOST, 40)
        self.assert_same(house.MOST, 40)

    def test_shape(self):
        for thing in NO_EVENTS:
            house = House(PROGRAM)
            story = house.story()
            self.assert_same(house.barred(thing), "shape")
            self.assert_error(InvalidEvent, {"event": thing, "reason": "shape"}, house.happen, thing)
            self.assert_error(InvalidEvent, {"event": thing, "reason": "shape"}, house.tried, thing)
            with self.assertRaises(InvalidEvent):
                house += thing
            self.assert_same(house.story(), story)
        for thing in ODD:
            house = House(PROGRAM)
            for word, method in (("step", house.do_step), ("careful", house.set_careful), ("mark", house.mark)):
                if not is_event((word, thing)):
                    self.assert_error(InvalidEvent, {"event": (word, thing), "reason": "shape"}, method, thing)
            with self.assertRaises(InvalidEvent) as told:
                house.careful_now = thing
            self.assert_same(vars(told.exception), {"event": ("careful", thing), "reason": "shape"})
            self.assert_same(house.story(), (("house", PROGRAM, "off"),))

    def test_the_very_event_is_told(self):
        for event in (["step"], ("step", [1]), ("mark", "a b")):
            with self.assertRaises(InvalidEvent) as told:
                House(PROGRAM).happen(event)
            self.assertIs(told.exception.event, event)

    def test_full(self):
        house = House(PROGRAM)
        self.assert_same(house.do_all(*FULL[:40]), 40)
        for event in (FULL[40], FULL[0], ("careful", "off"), ("careful", "on"), STEPS[0], ("step", (9, "end", -1))):
            self.assert_same(house.barred(event), "full")
            self.assert_error(InvalidEvent, {"event": event, "reason": "full"}, house.happen, event)
            self.assert_error(InvalidEvent, {"event": event, "reason": "full"}, house.tried, event)
        self.assert_same(house.barred(("step",)), "shape")
        house.undo()
        self.assert_same([house.barred(event) for event in (FULL[39], FULL[0], ("careful", "off"), STEPS[0], STEPS[1])],
                         [None, "twice", "same", None, "process"])
        self.assert_same(house.tried(STEPS[0]), RUN[:1])
        self.assert_error(InvalidEvent, {"event": STEPS[1], "reason": "full"}, house.tried, *STEPS[:2])
        other = House(PROGRAM)
        self.assert_error(InvalidEvent, {"event": FULL[40], "reason": "full"}, other.tried, *FULL)
        self.assert_error(Broken, {"done": 40}, other.do_all, *FULL)

    def test_careful(self):
        barred = 0
        rng = random.Random(60)
        for program, _ in many_houses(60, 25):
            house, plain = House(program, careful="on"), Plain(program, "on")
            at_first = house.harms_now
            for _ in range(14):
                for step in house.next_now:
                    new = set(harms_shown(program, house.run_now + (step,))) - set(harms_shown(program, house.run_now))
                    self.assert_same(house.barred(("step", step)), "harm" if new else None)
                    barred += bool(new)
                event = drawn_event(rng, plain)
                if not (is_event(event) and event[0] == "careful") and plain.do(event) is None:
                    house.happen(event)
            self.assert_same(house.harms_now, at_first)
            self.assertIs(house.careful_now, "on")
        self.assertGreater(barred, 50)

    def test_careful_on_and_off(self):
        house = House(PROGRAM, careful="on")
        house += STEPS[0]
        self.assert_same([house.barred(STEPS[1]), house.barred(("careful", "on")), house.barred(("careful", "off"))], ["harm", "same", None])
        house.careful_now = "off"
        house += STEPS[1]
        self.assert_same([house.set_careful("on"), house.barred(STEPS[2]), house.harms_now], [2, "harm", ("kept",)])
        # What is shown already may be shown again.
        self.assert_same([house.undo(), house.undo(), house.careful_now], [("careful", "on"), STEPS[1], "off"])

    def test_not_usable(self):
        self.assert_order(NotUsable, lambda program, careful: House(program, careful=careful).story(),
                          {"program": PROGRAM, "careful": "on"},
                          {"program": NO_PROGRAMS, "careful": [thing for thing in ODD] + ["On", "", ("on",), ["off"]]})
        for program in NO_PROGRAMS[:12]:
            self.assert_error(NotUsable, {"word": "program", "at": -1}, House, program, careful="maybe")
        with self.assertRaises(TypeError):
            House(PROGRAM, "on")
        house = House(PROGRAM)
        house.do_all(*STEPS[:2])
        house.mark("m")
        for thing in ODD + ("R", ("r",)):
            if thing not in ("r", "w"):
                self.assert_error(NotUsable, {"word": "end", "at": -1}, house.holders, thing)
            self.assert_error(NotUsable, {"word": "name", "at": -1}, house.born_since, thing)
            if thing not in (0, 1, 2) or isinstance(thing, bool):
                self.assert_error(NotUsable, {"word": "process", "at": -1}, lambda: house[thing])
                self.assertIs(thing in house, False)
        for thing in (3, -1, "0", (0,), slice(0, 1)):
            self.assert_error(NotUsable, {"word": "process", "at": -1}, lambda: house[thing])
        self.assertIs(0 in house and 2 in house, True)
        with self.assertRaises(TypeError):
            iter(house)
        for name in ("program_now", "run_now", "tree_now", "next_now", "waiting_now", "ways_now", "harms_now", "shown_now"):
            with self.assertRaises(AttributeError):
                setattr(house, name, ())

    def test_moments(self):
        house = House(BREED)
        house.mark("a")
        for step in ((0, "aside", 0), (0, "aside", 1)):
            house.do_step(step)
        house.mark("b")
        house.do_step((1, "aside", 0))
        house.mark("c")
        self.assert_same([house.born_since(name) for name in "abc"], [(1, 2, 3), (3,), ()])
        self.assert_same(house.tally(), (("aside", 3),))
        house.undo()
        self.assert_error(NotUsable, {"word": "name", "at": -1}, house.born_since, "c")
        house.undo()
        house.undo()
        self.assert_error(NotUsable, {"word": "name", "at": -1}, house.born_since, "b")
        # Its name can be given anew, to another moment.
        house.do_step((2, "aside", 1))
        house.mark("b")
        self.assert_same([house.born_since(name) for name in "ab"], [(1, 2, 3), ()])

    def test_what_is_told_belongs_to_the_caller(self):
        house = House(PROGRAM)
        house.do_all(*STEPS)
        table = house.table()
        table.clear()
        self.assert_same(house.table(), by_hand(PROGRAM, RUN))


class Several(HouseCase):
    def test_tried(self):
        rng = random.Random(62)
        seen = set()
        for program, careful in many_houses(62, 12):
            house, plain = led(rng, program, careful, 5)
            for _ in range(4):
                other = copy.deepcopy(plain)
                events, fault = [], None
                for _ in range(rng.randint(0, 5)):
                    event = drawn_event(rng, other)
                    events.append(event)
                    reason = other.do(event)
                    if reason is not None:
                        fault = (reason, event)
                        break
                seen.add(fault is None)
                kept = house.counts()
                self.assert_same(reason_told(house.tried, *events), fault or ("value", other.run()))
                self.assert_same(house.counts(), kept)
                self.assert_house(house, plain)
        self.assertEqual(len(seen), 2)

    def test_do_all(self):
        rng = random.Random(621)
        seen = set()
        for program, careful in many_houses(621, 12):
            for keep in (None, False, True):
                house, plain = led(rng, program, careful, 4)
                other, events, fault = copy.deepcopy(plain), [], None
                for _ in range(rng.randint(0, 6)):
                    event = drawn_event(rng, other)
                    events.append(event)
                    reason = other.do(event)
                    if reason is not None:
                        fault = (reason, event)
                        break
                events += [("mark", "z")] * (fault is not None)
                named = {} if keep is None else {"keep": keep}
                counts = house.counts()
                if fault is None:
                    self.assert_same(house.do_all(*events, **named), len(events))
                else:
                    with self.assertRaises(Broken) as told:
                        house.do_all(*events, **named)
                    self.assert_same(vars(told.exception), {"done": len(events) - 2})
                    cause = told.exception.__cause__
                    self.assertIs(type(cause), InvalidEvent)
                    self.assert_same((cause.reason, cause.event), fault)
                seen.add((fault is None, keep))
                self.assert_house(house, other if fault is None or keep else plain)
                self.assert_same(house.counts(), (counts[0] + 1, counts[1] + 1))
        self.assertEqual(len(seen), 6)

    def test_keep_is_a_bool(self):
        house = House(PROGRAM)
        for keep in [thing for thing in ODD if not isinstance(thing, bool)]:
            for events in ((), STEPS, (None,)):
                counts = house.counts()
                self.assert_error(NotUsable, {"word": "keep", "at": -1}, house.do_all, *events, keep=keep)
                self.assert_same(house.counts(), (counts[0] + 1, counts[1] + 1))
        self.assert_same(house.story(), (("house", PROGRAM, "off"),))
        self.assert_same([house.do_all(), house.do_all(keep=True)], [0, 0])

    def test_broken_by_hand(self):
        house = House(PROGRAM)
        self.assert_error(Broken, {"done": 2}, house.do_all, *STEPS[:2], STEPS[0], STEPS[2])
        self.assert_same(house.run_now, ())
        self.assert_error(Broken, {"done": 2}, house.do_all, *STEPS[:2], STEPS[0], STEPS[2], keep=True)
        self.assert_same(house.run_now, RUN[:2])
        self.assert_error(Broken, {"done": 0}, house.do_all, None, keep=True)
        self.assert_same(house.run_now, RUN[:2])

    def test_trial(self):
        rng = random.Random(622)
        for program, careful in many_houses(622, 10):
            house, plain = led(rng, program, careful, 8)
            counts, many = house.counts(), 0
            with house.trial() as same:
                self.assertIs(same, house)
                other = copy.deepcopy(plain)
                for _ in range(8):
                    if rng.random() < 0.4 and other.events:
                        self.assert_same(house.undo(), other.events.pop())
                        many += 1
                    event = drawn_event(rng, other)
                    if other.do(event) is None:
                        house.happen(event)
                        many += 1
                self.assert_house(house, other)
            self.assert_house(house, plain)
            self.assert_same(house.counts(), (counts[0] + many, counts[1] + many))

    def test_trial_behind_an_error(self):
        house = House(PROGRAM)
        house += STEPS[0]
        for error, event in ((InvalidEvent, STEPS[0]), (KeyError, None)):
            with self.assertRaises(error):
                with house.trial():
                    house += STEPS[1]
                    house.mark("m")
                    if event is None:
                        raise KeyError("k")
                    house.happen(event)
            self.assert_same(house.story(), (("house", PROGRAM, "off"), STEPS[0]))
            self.assert_error(NotUsable, {"word": "name", "at": -1}, house.born_since, "m")

    def test_trial_begins_with_its_call(self):
        house = House(PROGRAM)
        trial = house.trial()
        house += STEPS[0]
        with trial:
            house += STEPS[1]
        self.assert_same(house.story(), (("house", PROGRAM, "off"),))
        # One within another.
        house += STEPS[0]
        with house.trial():
            house += STEPS[1]
            with house.trial():
                house.undo()
                house.undo()
            self.assert_same(house.run_now, RUN[:2])
            house.careful_now = "on"
        self.assert_same(house.story(), (("house", PROGRAM, "off"), STEPS[0]))

    def test_undo(self):
        rng = random.Random(623)
        for program, careful in many_houses(623, 12):
            house, plain = led(rng, program, careful, 10)
            while plain.events:
                self.assert_same(house.undo(), plain.events.pop())
                if len(plain.events) % 3 == 0:
                    self.assert_house(house, plain)
            counts = house.counts()
            self.assert_error(NothingToUndo, {"steps": 0}, house.undo)
            self.assert_same(house.counts(), (counts[0] + 1, counts[1] + 1))
            self.assert_house(house, plain)

    def test_counts(self):
        rng = random.Random(624)
        for program, careful in many_houses(624, 6):
            house, plain = House(program, careful=careful), Plain(program, careful)
            self.assert_same(house.counts(), (0, 0))
            for many in range(20):
                kind = rng.randrange(6)
                if kind < 4:
                    reason_told(apply, house, drawn_event(rng, plain), OPERATIONS[kind])
                elif kind == 4:
                    try:
                        house.undo()
                    except NothingToUndo:
                        pass
                else:
                    try:
                        house.do_all(drawn_event(rng, plain), drawn_event(rng, plain), keep=rng.choice((True, False, None)))
                    except (Broken, NotUsable):
                        pass
                self.assert_same(house.counts(), (many + 1, many + 1))
                plain.events = list(house.story()[1:])
                # All else counts nothing.
                house.barred(STEPS[0])
                reason_told(house.tried, STEPS[0])
                with house.trial():
                    pass
                self.assert_house(house, plain)
                house.ways_left()
                self.assertTrue(house == house and 0 in house)
                self.assert_same(house.counts(), (many + 1, many + 1))


class Equal(HouseCase):
    def test_equal_for_an_equal_story_alone(self):
        one, other = House(PROGRAM), House(copy.deepcopy(PROGRAM))
        self.assertIs(one == other, True)
        self.assertIs(one != other, False)
        one += STEPS[0]
        self.assertIs(one == other, False)
        other.do_all(STEPS[0], ("mark", "a"))
        self.assertIs(one == other, False)
        self.assertIs(one != other, True)
        other.undo()
        # Counts are no part of the story.
        self.assertNotEqual(one.counts(), other.counts())
        self.assertIs(one == other, True)
        self.assertIs(House(PROGRAM) == House(PROGRAM, careful="on"), False)
        self.assertIs(House(PROGRAM) == House(CHOICE), False)
        # As careful, but by another way.
        one, other = House(PROGRAM), House(PROGRAM, careful="on")
        one.set_careful("on")
        self.assertIs(one == other, False)
        for thing in ODD + (one.story(), object()):
            self.assertIs(one == thing, False)
            self.assertIs(one != thing, True)

    def test_drawn_houses(self):
        rng = random.Random(641)
        houses = []
        for program in HOUSES[:3]:
            for _ in range(12):
                houses.append(led(rng, program, rng.choice(("on", "off")), rng.randint(0, 3))[0])
        equal = 0
        for one in houses:
            for other in houses:
                self.assertIs(one == other, one.story() == other.story())
                equal += one == other
        self.assertGreater(equal, len(houses))


class WaysLeft(HouseCase):
    def test_by_all_that_can_come(self):
        rng = random.Random(631)
        seen = {}
        for program in many_few_runs(631, 160) + [PROGRAM, CHOICE, ALONE]:
            house = House(program)
            self.assert_same(house.ways_left(), ways_of(program))
            for step in random_run(rng, program, rng.randint(1, 20)):
                wanted, whole = ways_to_come(program, house.run_now)
                self.assertTrue(whole)
                self.assert_same(house.ways_left(), wanted, house.story())
                seen[wanted] = seen.get(wanted, 0) + 1
                house.do_step(step)
            self.assert_same(house.ways_left(), ways_to_come(program, house.run_now)[0])
        self.assertLessEqual({(), ("own",), ("stays",), ("joins",)}, set(seen))

    def test_with_rounds_and_births_without_end(self):
        rng = random.Random(632)
        whole_ones = exact = fell = 0
        for program in many_rounds(632, 60) + random_knots(632, 40) + [BREED] + list(random_lines(632, 60)):
            house = House(program)
            left = set(house.ways_left())
            self.assertEqual(left, set(ways_of(program)))
            for step in random_run(rng, program, 10):
                house.do_step(step)
                now = set(house.ways_left())
                # A step more adds none, and the run itself is among those that begin with it.
                self.assertLessEqual(now, left)
                self.assertLessEqual(set(house.ways_now), now)
                fell += now != left
                left = now
            found, whole = ways_to_come(program, house.run_now, len(house.tree_now) + 2, 800)
            self.assertLessEqual(set(found), left)
            whole_ones += whole
            exact += set(found) == left
            if whole:
                self.assertEqual(set(found), left)
            # What is left is left behind some step, or there now.
            behind = set(house.ways_now)
            for step in house.next_now:
                with house.trial():
                    house.do_step(step)
                    behind |= set(house.ways_left())
            self.assertEqual(behind, left)
        self.assertGreater(whole_ones, 5)
        self.assertGreater(exact, 60)
        self.assertGreater(fell, 5)

    def test_none_is_left_once_none_holds_w(self):
        rng = random.Random(633)
        none = 0
        for program in many_rounds(633, 40) + many_few_runs(633, 40):
            run = random_run(rng, program, 15)
            house = House(program)
            house.do_all(*[("step", step) for step in run])
            if World(program, run).holders("w") == ():
                none += 1
                self.assert_same(house.ways_left(), ())
        self.assertGreater(none, 20)

    def test_by_hand(self):
        # The child of one that has ended is still waited for by its elder.
        program = (("open", "open"), (
            ("a", (("copy", "b", 1), ("wait", 2), ("end",)), ()), ("b", (("copy", "c", 1), ("end",)), ()),
            ("c", (("close", "w", 1), ("go", (2, 3)), ("read", 3), ("end",)), ())))
        house = House(program)
        for step, left in (((0, "copy", -1), ("joins",)), ((1, "copy", -1), ("joins",)), ((1, "end", -1), ("joins",)),
                           ((2, "close", -1), ("joins",)), ((2, "go", 3), ()), ((2, "end", -1), ()), ((0, "wait", -1), ())):
            house.do_step(step)
            self.assert_same(house.ways_left(), left)
        house = House(program)
        house.do_all(*[("step", step) for step in ((0, "copy", -1), (1, "copy", -1), (1, "end", -1), (2, "close", -1), (2, "go", 2))])
        self.assert_same((house.ways_left(), house.ways_now), (("joins",), ("joins",)))


if __name__ == "__main__":
    unittest.main()
