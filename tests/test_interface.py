"""Names, arguments and places of the interface."""

import ast
import importlib
import inspect
import pathlib
import unittest

from keptends.fateclasses import Fates, Listed
from keptends.programclasses import Program, Reborn
from keptends.runclasses import Quiet, Run

FOLDER = pathlib.Path(__file__).resolve().parent.parent / "keptends"
FUNCTIONS = {
    "kinds": ("is_integer(thing)", "is_number(thing)", "is_name(thing)", "is_pair(thing)", "is_begin(thing)",
              "is_asides(thing)", "is_instruction(thing)", "is_role(thing)", "is_step(thing)"),
    "programchecker": ("is_program(thing)", "lets_program(thing)"),
    "programparts": ("names_in(program)", "role_in(program, name)", "births_in(program, name)", "role_names_born(program)",
                     "places_with(program, name, word)", "targets_at(program, name, place)"),
    "programchanges": ("with_role(program, role, *, at=None)", "without_role(program, name)",
                       "with_instruction(program, name, place, instruction)", "with_asides(program, name, asides)",
                       "with_begin(program, begin)", "with_births(program, word)", "renamed(program, old, new)",
                       "put_in(program, name, place, instruction)"),
    "programtexts": ("instruction_text(instruction)", "program_text(program)"),
    "programreadings": ("read_instruction(text, *, line=0)", "read_program(text)"),
    "trees": ("tree_after(program, run)", "next_steps(program, run)", "is_at_rest(program, run)", "waiting_in(program, run)",
              "holders_in(program, run, end)", "came_of(program, run, process)"),
    "runchecker": ("is_run(program, thing)", "lets_run(program, thing)"),
    "runs": ("after_step(program, run, step)", "runs_of_length(program, length)"),
    "hangings": ("ways_at_end(program, run)", "harms_shown(program, run)", "first_shown(program, run, harm)"),
    "runtexts": ("step_text(step)", "run_text(run)"),
    "runreadings": ("read_step(text)", "read_run(text)"),
    "pictures": ("run_picture(program, run)",),
    "fates": ("is_fate(thing)", "fates_of(program, name, ends)", "all_fates(program)"),
    "fatechecker": ("lets_fates(program, thing, *, ways=('own', 'stays', 'joins'))",),
    "hangs": ("ways_of(program)", "can_hang(program, *, ways=('own', 'stays', 'joins'))", "fewest_processes(program, way)",
              "hang_run(program, way)"),
    "waypapers": ("way_paper(program, way)", "few_paper(program, way)"),
    "waychecker": ("lets_way(program, way, thing)", "lets_few(program, way, thing)"),
    "lettings": ("can_end(program, name, ends)", "can_let_go(program, name, ends)", "can_be_unread(program, name, ends)",
                 "can_end_late(program, name, ends)"),
    "harmchecker": ("lets_harm(program, harm, thing)",),
}
CLASSES = {"programclasses": ["Program", "Reborn"], "runclasses": ["Run", "Quiet"], "fateclasses": ["Fates", "Listed"]}
METHODS = {
    Program: ("__init__(self, begin, roles)", "__getitem__(self, at)", "__call__(self, name)", "__contains__(self, x)",
              "__len__(self)", "__iter__(self)", "__str__(self)", "__eq__(self, other)", "__le__(self, other)",
              "__add__(self, other)", "__sub__(self, other)", "__mod__(self, other)", "ahead(self, role)", "begun(self, begin)",
              "placed(self, name, place, instruction)", "beside(self, name, asides)", "called(self, old, new)",
              "shut_at(self, name, place, instruction)"),
    Reborn: ("__init__(self, begin, roles, word)",),
    Run: ("__init__(self, program, steps=())", "holders(self, end)", "first(self, harm)", "__add__(self, other)",
          "__sub__(self, other)", "__mod__(self, other)", "__getitem__(self, at)", "__contains__(self, x)", "__len__(self)",
          "__iter__(self)", "__str__(self)", "__eq__(self, other)", "__le__(self, other)"),
    Quiet: ("__init__(self, program, steps=())",),
    Fates: ("__init__(self, program)", "__getitem__(self, at)", "__call__(self, name)", "__contains__(self, x)", "__len__(self)",
            "__iter__(self)", "__str__(self)", "__eq__(self, other)", "__le__(self, other)", "__and__(self, other)"),
    Listed: ("__init__(self, program, thing)",),
}
PROPERTIES = {
    Program: ("begin_now", "roles_now", "form_now", "names_now"), Reborn: ("source_now", "birth_now"),
    Run: ("program_now", "run_now", "tree_now", "next_now", "rest_now", "waiting_now", "ways_now", "harms_now"), Quiet: (),
    Fates: ("program_now", "table_now", "first_now", "ways_now"), Listed: ("table_now", "spare_now")}


class Interface(unittest.TestCase):
    def test_functions_and_their_arguments(self):
        for name, signatures in FUNCTIONS.items():
            module = importlib.import_module("keptends." + name)
            for signature in signatures:
                function = getattr(module, signature.split("(")[0])
                self.assertEqual(function.__name__ + str(inspect.signature(function)), signature)

    def test_each_is_defined_where_it_is_listed(self):
        for name, signatures in FUNCTIONS.items():
            body = ast.parse((FOLDER / (name + ".py")).read_text()).body
            defined = {node.name for node in body if isinstance(node, ast.FunctionDef)}
            self.assertLessEqual({signature.split("(")[0] for signature in signatures}, defined)
        for name, classes in CLASSES.items():
            body = ast.parse((FOLDER / (name + ".py")).read_text()).body
            self.assertEqual([node.name for node in body if isinstance(node, ast.ClassDef)], classes)

    def test_methods_and_properties_are_defined_in_the_class_itself(self):
        for known, signatures in METHODS.items():
            for signature in signatures:
                method = vars(known)[signature.split("(")[0]]
                self.assertEqual(method.__name__ + str(inspect.signature(method)), signature)
            for name in PROPERTIES[known]:
                self.assertIsInstance(vars(known)[name], property)
        self.assertEqual(str(inspect.signature(Program.of)), "(*roles, begin=('open', 'open'))")
        self.assertEqual(str(inspect.signature(Program.read)), "(text)")
        self.assertEqual(str(inspect.signature(Run.read)), "(program, text)")
        self.assertIn("read", vars(Run))


if __name__ == "__main__":
    unittest.main()
