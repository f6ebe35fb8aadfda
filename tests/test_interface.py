"""Names, arguments and places of the interface."""

import ast
import importlib
import inspect
import pathlib
import unittest

from keptends.desks import Desk
from keptends.fateclasses import Fates, Listed
from keptends.houses import House
from keptends.programclasses import Program, Reborn
from keptends.runclasses import Quiet, Run
from keptends.shutclasses import Shuts

FOLDER = pathlib.Path(__file__).resolve().parent.parent / "keptends"
FUNCTIONS = {
    "kinds": ("is_integer(thing)", "is_number(thing)", "is_name(thing)", "is_pair(thing)", "is_begin(thing)",
              "is_asides(thing)", "is_instruction(thing)", "is_role(thing)", "is_step(thing)"),
    "programchecker": ("is_program(thing)", "lets_program(thing)"),
    "programparts": ("names_in(program)", "role_in(program, name)", "births_in(program, name)", "role_names_born(program)",
                     "places_with(program, name, word)", "targets_at(program, name, place)"),
    "programchanges": ("with_role(program, role, *, at=None)", "without_role(program, name)",
                       "with_instruction(program, name, place, instruction)", "with_asides(program, name, asides)",
                       "with_begin(program, begin)", "with_births(program, word)", "renamed(program, old, new)",
                       "put_in(program, name, place, instruction)"),
    "programtexts": ("instruction_text(instruction)", "program_text(program)"),
    "programreadings": ("read_instruction(text, *, line=0)", "read_program(text)"),
    "trees": ("tree_after(program, run)", "next_steps(program, run)", "is_at_rest(program, run)", "waiting_in(program, run)",
              "holders_in(program, run, end)", "came_of(program, run, process)"),
    "runchecker": ("is_run(program, thing)", "lets_run(program, thing)"),
    "runs": ("after_step(program, run, step)", "runs_of_length(program, length)"),
    "hangings": ("ways_at_end(program, run)", "harms_shown(program, run)", "first_shown(program, run, harm)"),
    "runtexts": ("step_text(step)", "run_text(run)"),
    "runreadings": ("read_step(text)", "read_run(text)"),
    "pictures": ("run_picture(program, run)",),
    "fates": ("is_fate(thing)", "fates_of(program, name, ends)", "all_fates(program)"),
    "fatechecker": ("lets_fates(program, thing, *, ways=('own', 'stays', 'joins'))",),
    "hangs": ("ways_of(program)", "can_hang(program, *, ways=('own', 'stays', 'joins'))", "fewest_processes(program, way)",
              "hang_run(program, way)"),
    "waypapers": ("way_paper(program, way)", "few_paper(program, way)"),
    "waychecker": ("lets_way(program, way, thing)", "lets_few(program, way, thing)"),
    "lettings": ("can_end(program, name, ends)", "can_let_go(program, name, ends)", "can_be_unread(program, name, ends)",
                 "can_end_late(program, name, ends)"),
    "harmchecker": ("lets_harm(program, harm, thing)",),
    "harms": ("harms_of(program)",
              "is_harmless(program, *, harms=('own', 'stays', 'joins', 'deaf', 'mute', 'unheard', 'kept'))",
              "ends_told(program)", "harm_run(program, harm)"),
    "shuttings": ("shut(program, shuts)", "least_shuts(program, shuts, *, ways=('own', 'stays', 'joins'))",
                  "greatest_shuts(program, shuts, *, ways=('own', 'stays', 'joins'))"),
    "shutpapers": ("shut_paper(program, shuts, *, ways=('own', 'stays', 'joins'))",),
    "shutchecker": ("lets_shuts(program, shuts, thing, *, ways=('own', 'stays', 'joins'))",),
    "births": ("births_table(program)",
               "births_without(program, *, harms=('own', 'stays', 'joins', 'deaf', 'mute', 'unheard', 'kept'))"),
    "likeness": ("have_same_harms(program, other)", "have_same_ways(program, other)", "have_same_reads(program, other)",
                 "parting_harm(program, other)"),
    "houseevents": ("is_event(thing)",),
    "houselogs": ("is_story(thing)", "replayed(story)"),
    "housetexts": ("event_line(event)", "story_lines(story)"),
    "housereadings": ("read_event(text)", "read_story(lines)"),
}
CLASSES = {"programclasses": ["Program", "Reborn"], "runclasses": ["Run", "Quiet"], "fateclasses": ["Fates", "Listed"],
           "shutclasses": ["Shuts"], "houses": ["Trial", "House"], "desks": ["Desk"]}
METHODS = {
    Program: ("__init__(self, begin, roles)", "__getitem__(self, at)", "__call__(self, name)", "__contains__(self, x)",
              "__len__(self)", "__iter__(self)", "__str__(self)", "__eq__(self, other)", "__le__(self, other)",
              "__add__(self, other)", "__sub__(self, other)", "__mod__(self, other)", "ahead(self, role)", "begun(self, begin)",
              "placed(self, name, place, instruction)", "beside(self, name, asides)", "called(self, old, new)",
              "shut_at(self, name, place, instruction)"),
    Reborn: ("__init__(self, begin, roles, word)",),
    Run: ("__init__(self, program, steps=())", "holders(self, end)", "first(self, harm)", "__add__(self, other)",
          "__sub__(self, other)", "__mod__(self, other)", "__getitem__(self, at)", "__contains__(self, x)", "__len__(self)",
          "__iter__(self)", "__str__(self)", "__eq__(self, other)", "__le__(self, other)"),
    Quiet: ("__init__(self, program, steps=())",),
    Fates: ("__init__(self, program)", "__getitem__(self, at)", "__call__(self, name)", "__contains__(self, x)", "__len__(self)",
            "__iter__(self)", "__str__(self)", "__eq__(self, other)", "__le__(self, other)", "__and__(self, other)"),
    Listed: ("__init__(self, program, thing)",),
    Shuts: ("__init__(self, program, shuts=())", "spares(self, *, ways=('own', 'stays', 'joins'))",
            "least_within(self, *, ways=('own', 'stays', 'joins'))", "__add__(self, other)", "__sub__(self, other)",
            "__contains__(self, x)", "__len__(self)", "__iter__(self)", "__or__(self, other)", "__and__(self, other)",
            "__le__(self, other)", "__eq__(self, other)", "__str__(self)"),
    House: ("__init__(self, program, *, careful='off')", "happen(self, event)", "do_step(self, step)", "set_careful(self, word)",
            "mark(self, name)", "__iadd__(self, other)", "barred(self, event)", "tried(self, *events)", "trial(self)", "undo(self)",
            "do_all(self, *events, keep=False)", "counts(self)", "ways_left(self)", "holders(self, end)", "born_since(self, name)",
            "tally(self)", "table(self)", "story(self)", "__getitem__(self, at)", "__contains__(self, x)", "__len__(self)",
            "__eq__(self, other)"),
    Desk: ("__init__(self, program)", "say(self, row)", "counts(self)"),
}
PROPERTIES = {
    Program: ("begin_now", "roles_now", "form_now", "names_now"), Reborn: ("source_now", "birth_now"),
    Run: ("program_now", "run_now", "tree_now", "next_now", "rest_now", "waiting_now", "ways_now", "harms_now"), Quiet: (),
    Fates: ("program_now", "table_now", "first_now", "ways_now"), Listed: ("table_now", "spare_now"),
    Shuts: ("program_now", "shuts_now", "shut_now", "ways_now", "harms_now"), Desk: (),
    House: ("program_now", "run_now", "careful_now", "tree_now", "next_now", "waiting_now", "ways_now", "harms_now", "shown_now")}


class Interface(unittest.TestCase):
    def test_functions_and_their_arguments(self):
        for name, signatures in FUNCTIONS.items():
            module = importlib.import_module("keptends." + name)
            for signature in signatures:
                function = getattr(module, signature.split("(")[0])
                self.assertEqual(function.__name__ + str(inspect.signature(function)), signature)

    def test_each_is_defined_where_it_is_listed(self):
        for name, signatures in FUNCTIONS.items():
            body = ast.parse((FOLDER / (name + ".py")).read_text()).body
            defined = {node.name for node in body if isinstance(node, ast.FunctionDef)}
            self.assertLessEqual({signature.split("(")[0] for signature in signatures}, defined)
        for name, classes in CLASSES.items():
            body = ast.parse((FOLDER / (name + ".py")).read_text()).body
            self.assertEqual([node.name for node in body if isinstance(node, ast.ClassDef)], classes)

    def test_methods_and_properties_are_defined_in_the_class_itself(self):
        for known, signatures in METHODS.items():
            for signature in signatures:
                method = vars(known)[signature.split("(")[0]]
                self.assertEqual(method.__name__ + str(inspect.signature(method)), signature)
            for name in PROPERTIES[known]:
                self.assertIsInstance(vars(known)[name], property)
        self.assertEqual(str(inspect.signature(Program.of)), "(*roles, begin=('open', 'open'))")
        self.assertEqual(str(inspect.signature(Program.read)), "(text)")
        self.assertEqual(str(inspect.signature(Run.read)), "(program, text)")
        self.assertIn("read", vars(Run))
        self.assertEqual(vars(House)["MOST"], 40)


if __name__ == "__main__":
    unittest.main()
