"""What the document promises over the whole program (points 2, 8, 9, 16, 22, 29, 40, 42, 45, 52, 54, 56, 64 and 67)."""

import copy
import importlib
import inspect
import itertools
import random
import unittest

from keptends import errors
from keptends.births import births_table
from keptends.desks import Desk
from keptends.errors import Broken, InvalidEvent, NotUsable
from keptends.fateclasses import Fates
from keptends.fates import all_fates
from keptends.hangings import harms_shown, ways_at_end
from keptends.hangs import fewest_processes, hang_run, ways_of
from keptends.harmchecker import lets_harm
from keptends.harms import ends_told, harm_run, harms_of, is_harmless
from keptends.houselogs import replayed
from keptends.housereadings import read_story
from keptends.houses import House
from keptends.housetexts import event_line, story_lines
from keptends.kinds import HARMS, WAYS
from keptends.likeness import have_same_harms
from keptends.programclasses import Program, Reborn
from keptends.programreadings import read_program
from keptends.programtexts import program_text
from keptends.runchecker import is_run, lets_run
from keptends.runclasses import Quiet, Run
from keptends.runreadings import read_run
from keptends.runs import after_step
from keptends.runtexts import run_text, step_text
from keptends.shutclasses import Shuts
from keptends.shutpapers import shut_paper
from keptends.shutchecker import lets_shuts
from keptends.trees import next_steps, tree_after
from keptends.waychecker import lets_few, lets_way
from keptends.waypapers import few_paper, way_paper
from tests.checks import Case
from tests.fatesamples import FEW_PROGRAMS, SAFE
from tests.harmsamples import TOLD, UNHEARD, many_few_runs, many_rounds, wide
from tests.housesamples import STEPS, drawn_event, many_houses
from tests.houseoracle import Plain, is_event
from tests.oracle import random_run
from tests.samples import LATE, ODD, PROGRAM, RUN, random_knots
from tests.shutsamples import GIVEN, drawn_shuts
from tests.test_errors import FAMILIES
from tests.test_interface import FUNCTIONS

# A value that can be used for each parameter, of whatever function; some functions want others.
GOOD = {
    "program": PROGRAM, "other": SAFE, "run": RUN, "name": "kid", "word": "close", "place": 1, "role": ("spare", (("end",),), ()),
    "at": 0, "instruction": ("end",), "asides": (), "begin": ("marked", "open"), "old": "kid", "new": "spare", "text": "end", "line": 0,
    "end": "r", "process": 0, "step": (0, "read", -1), "length": 1, "harm": "kept", "harms": ("kept",), "ends": ("open", "none"),
    "way": "stays", "ways": ("own",), "shuts": GIVEN, "event": STEPS[0], "story": (("house", PROGRAM, "on"),), "lines": ["house on 1"],
    "thing": None}
OTHERS = {
    ("with_births", "word"): "copy", ("put_in", "instruction"): ("mark", "w"), ("read_program", "text"): "begin open open\nrole a\nend",
    ("read_step", "text"): "0 end", ("read_run", "text"): "-", ("read_event", "text"): "mark a", ("step_text", "step"): RUN[0]}
# Values that are judged, or refused by errors of their own, are not refused as such.
JUDGED = ("thing", ("after_step", "step"))
BAD = {"length": -1, "place": 99, "at": 99, "line": -1, "process": 99, "run": None, "ways": ("own", "own"), "harms": ["kept"]}


def drawn_programs(seed, many):
    """Programs of several kinds."""
    return many_rounds(seed, many) + many_few_runs(seed, many) + random_knots(seed, many) + list(FEW_PROGRAMS) + [TOLD, UNHEARD]


def shapes(tree):
    """What there is behind a run, whatever the numbers of the processes are."""
    children = {}
    for k, row in enumerate(tree):
        children.setdefault(row[1], []).append(k)

    def shape(k):
        name, _, place, r, w, lives = tree[k]
        return (name, place, r, w, lives, tuple(sorted(shape(child) for child in children.get(k, []))))

    return shape(0)


class Errors(Case):
    def test_errors_are_of_their_own_family_alone(self):
        for family, members in FAMILIES.items():
            for name, fields in members.items():
                made = getattr(errors, name)(*fields)
                self.assertEqual([other for other in FAMILIES if isinstance(made, other)], [family])
                for value in ODD:
                    other = getattr(errors, name)(*[value] * len(fields))
                    self.assertEqual(set(vars(other)), set(fields))
                    self.assertTrue(all(found is value for found in vars(other).values()))

    def arguments(self, function, names):
        """A dict of values for these parameters, all of which can be used."""
        return {name: OTHERS.get((function, name), GOOD[name]) for name in names}

    def test_the_first_parameter_that_cannot_be_used(self):
        refused = 0
        for module, signatures in FUNCTIONS.items():
            for signature in signatures:
                function = getattr(importlib.import_module("keptends." + module), signature.split("(")[0])
                names = list(inspect.signature(function).parameters)
                word = function.__name__
                if module in ("kinds", "programchecker") or word in ("is_fate", "is_event", "is_story"):
                    continue
                values = self.arguments(word, names)
                able = [name for name in names if name not in JUDGED and (word, name) not in JUDGED]
                for many in range(1, len(able) + 1):
                    for wrong in itertools.combinations(able, many):
                        changed = {name: BAD.get(name) if name in wrong else value for name, value in values.items()}
                        # None is an index for with_role.
                        if word == "with_role" and "at" in wrong:
                            changed["at"] = -1
                        for order in (names, names[::-1]):
                            named = {name: changed[name] for name in order}
                            with self.assertRaises(NotUsable, msg=(word, wrong)) as told:
                                found = function(**named)
                                if inspect.isgenerator(found):
                                    next(found)
                            self.assert_same(vars(told.exception), {"word": wrong[0], "at": -1}, (word, wrong))
                            refused += 1
        self.assertGreater(refused, 250)

    def test_all_can_be_used_otherwise(self):
        # None of the values is refused by itself, so that the test above is one of the others.
        for module, signatures in FUNCTIONS.items():
            for signature in signatures:
                function = getattr(importlib.import_module("keptends." + module), signature.split("(")[0])
                values = self.arguments(function.__name__, list(inspect.signature(function).parameters))
                try:
                    function(**values)
                except errors.PipeError as error:
                    self.assertNotIsInstance(error, NotUsable, (signature, vars(error)))

    def test_kinds_of_results(self):
        # Several values come as a tuple unless a list is stated; each result is new.
        for function, kind in ((harms_of, tuple), (ends_told, tuple), (ways_of, tuple), (births_table, list), (all_fates, tuple)):
            for program in (PROGRAM, LATE, TOLD):
                self.assertIs(type(function(program)), kind)
        for program in (PROGRAM, LATE):
            house = House(program)
            for found, kind in ((house.ways_left(), tuple), (house.story(), tuple), (house.table(), list), (house.tally(), tuple),
                                (house.shown_now, tuple), (house.tried(), tuple), (house.counts(), tuple), (story_lines(house.story()), list)):
                self.assertIs(type(found), kind)


class Days(Case):
    def test_a_day_of_a_house_told_in_four_ways(self):
        rng = random.Random(641)
        for program, _ in many_houses(641, 20):
            house, plain, desk = House(program), Plain(program), Desk(program)
            for _ in range(14):
                event = drawn_event(rng, plain)
                if not is_event(event):
                    continue
                reason = plain.do(event)
                for function, argument in ((house.happen, event), (desk.say, event_line(event))):
                    if reason is None:
                        self.assertEqual(str(function(argument)), str(len(plain.run())))
                    else:
                        self.assert_error(InvalidEvent, {"event": event, "reason": reason}, function, argument)
            at_once, told = House(program), replayed(house.story())
            self.assert_same(at_once.do_all(*plain.events), len(plain.events))
            self.assertTrue(house == at_once == told == replayed(read_story(story_lines(house.story()))))
            for other in (at_once, told):
                self.assert_same((other.run_now, other.tree_now, other.shown_now, other.ways_left(), other.table()),
                                 (house.run_now, house.tree_now, house.shown_now, house.ways_left(), house.table()))
            self.assert_same([desk.say(row) for row in ("story", "table", "left", "shown")], [
                " / ".join(event_line(event) for event in plain.events) or "-", " / ".join(house.table()), " ".join(house.ways_left()) or "-",
                " ".join(f"{first}@{harm}" for first, harm in house.shown_now) or "-"])

    def test_runs_told_for_harms_and_ways(self):
        led = careful_ends = 0
        for program in drawn_programs(642, 25):
            for harm in HARMS:
                run = harm_run(program, harm)
                if run is None or len(run) > House.MOST:
                    continue
                led += 1
                house = House(program)
                self.assert_same(house.do_all(*[("step", step) for step in run]), len(run))
                self.assert_same(house.harms_now, harms_shown(program, run))
                self.assert_same(dict((word, first) for first, word in house.shown_now)[harm], lets_harm(program, harm, run))
                self.assertTrue(set(house.harms_now) <= set(harms_of(program)))
                # A careful one, and a Quiet, come as far as the first harm that is not there at first.
                first = min([first for first, _ in house.shown_now if first > 0], default=None)
                careful = House(program, careful="on")
                if first is None:
                    careful.do_all(*[("step", step) for step in run])
                    self.assert_same(Quiet(program, run).run_now, run)
                else:
                    careful_ends += 1
                    self.assert_error(Broken, {"done": first - 1}, careful.do_all, *[("step", step) for step in run], keep=True)
                    self.assert_same(careful.barred(("step", run[first - 1])), "harm")
                    self.assert_same(careful.run_now, run[:first - 1])
                    self.assert_error(NotUsable, {"word": "harm", "at": first - 1}, Quiet, program, run)
                    self.assert_same(Quiet(program, run[:first - 1]).harms_now, careful.harms_now)
                self.assert_same(careful.harms_now, harms_shown(program, ()))
                # As texts, and as a story.
                self.assert_same(read_run(run_text(run)), run)
                self.assertTrue(Run.read(program, run_text(run)) == Run(program, run))
                self.assert_same(replayed(read_story(story_lines(house.story()))).run_now, run)
        self.assertGreater(led, 80)
        self.assertGreater(careful_ends, 50)

    def test_papers_agree_with_runs(self):
        for program in drawn_programs(643, 20):
            harms, ways = harms_of(program), ways_of(program)
            self.assert_same(tuple(harm for harm in harms if harm in WAYS), ways)
            self.assert_same(Fates(program).ways_now, ways)
            self.assert_same(House(program).ways_left(), ways)
            for way in WAYS:
                self.assertIs(lets_way(program, way, way_paper(program, way)), way in ways)
                paper, run = few_paper(program, way), hang_run(program, way)
                self.assertEqual(paper is None, way not in ways)
                if paper is not None:
                    self.assert_same(lets_few(program, way, paper), fewest_processes(program, way))
                    self.assert_same(lets_run(program, run), fewest_processes(program, way))
                    self.assertIn(way, ways_at_end(program, run))
                    self.assert_same(harm_run(program, way), run)
            self.assertIs(is_harmless(program), harms == ())

    def test_what_was_returned_can_be_passed_in_again(self):
        # Whatever its size: with a step more, or without its last ones.
        program = wide(5)
        for harm in HARMS:
            run = harm_run(program, harm)
            if run is not None:
                self.assertIs(is_run(program, run), True)
                for step in next_steps(program, run)[:3]:
                    self.assert_same(lets_harm(program, harm, after_step(program, run, step)), lets_harm(program, harm, run))
                self.assertIs(is_run(program, run[:-2]), True)
        shuts = tuple((name, 0, "mark") for name in "abcde")
        self.assert_same(lets_shuts(program, shuts, shut_paper(program, shuts)), 0)


class Consequences(Case):
    def test_steps_of_unlike_processes_exchanged(self):
        rng = random.Random(291)
        exchanged = 0
        for program in drawn_programs(291, 25):
            run = random_run(rng, program, rng.randint(1, 12))
            for one, other in itertools.combinations(next_steps(program, run), 2):
                if one[0] != other[0]:
                    exchanged += 1
                    trees = [tree_after(program, after_step(program, after_step(program, run, first), then))
                             for first, then in ((one, other), (other, one))]
                    self.assertEqual(shapes(trees[0]), shapes(trees[1]))
                    births = [step for step in (one, other) if step[1] in ("copy", "start", "aside")]
                    if len(births) < 2:
                        self.assert_same(trees[0], trees[1])
        self.assertGreater(exchanged, 300)

    def test_programs_written_changed_and_taken_back(self):
        for program in drawn_programs(161, 15):
            one = Program(*program)
            self.assertTrue(Program.read(str(one)) == one)
            self.assert_same(read_program(program_text(program)), program)
            role = ("spare", (("write", 0),), ())
            self.assertTrue((one + role) - "spare" == one == one.ahead(role) - "spare")
            late = one.called(one.names_now[0], "spare")
            self.assertTrue(late.called("spare", one.names_now[0]) == one)
            for word in ("copy", "start"):
                self.assertTrue(Reborn(program[0], program[1], word) == one % word)
                self.assert_same(harms_of((one % word).form_now), harms_of(Reborn(program[0], program[1], word).form_now))

    def test_harms_of_all_telling_agree(self):
        rng = random.Random(521)
        for program in drawn_programs(521, 12):
            rows = {(begin, word): found for begin, word, found in births_table(program)}
            self.assert_same(rows[program[0], "as it is"], harms_of(program))
            self.assertIs(have_same_harms(program, copy.deepcopy(program)), True)
            one = Shuts(program, drawn_shuts(rng, program, 4))
            self.assert_same((one.harms_now, one.ways_now), (harms_of(one.shut_now), ways_of(one.shut_now)))
            self.assertIs(one.spares(), is_harmless(one.shut_now, harms=WAYS))
            steps = next_steps(program, ())
            self.assert_same(tuple(read_run(step_text(step))[0] for step in steps), steps)


if __name__ == "__main__":
    unittest.main()
