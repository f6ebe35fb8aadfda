"""The errors (point 9 and the section The interface)."""

import unittest

from keptends import errors
from keptends.errors import HouseError, PaperError, PipeError, ProgramError, TextError

FAMILIES = {
    PaperError: {"InvalidPaper": ("word", "at")},
    ProgramError: {"NotUsable": ("word", "at"), "InvalidStep": ("step", "word")},
    HouseError: {"InvalidEvent": ("event", "reason"), "NothingToUndo": ("steps",), "Broken": ("done",)},
    TextError: {"InvalidText": ("line", "field"), "InvalidRow": ("row",)},
}
ANY = (None, True, 0, -1, "", "word", (), (1, 2), [1, [2]], ("a", ()), object())


class Errors(unittest.TestCase):
    def test_families(self):
        self.assertEqual(PipeError.__bases__, (ValueError,))
        for family in FAMILIES:
            self.assertEqual(family.__bases__, (PipeError,))
            self.assertEqual(family.__module__, "keptends.errors")

    def test_each_error_is_derived_directly_from_its_family(self):
        for family, members in FAMILIES.items():
            for name in members:
                self.assertEqual(getattr(errors, name).__bases__, (family,))

    def test_there_are_no_others(self):
        listed = {name for members in FAMILIES.values() for name in members}
        families = {family.__name__ for family in FAMILIES} | {"PipeError"}
        defined = {name for name, thing in vars(errors).items() if isinstance(thing, type)}
        self.assertEqual(defined, listed | families)

    def test_fields_by_position_and_by_name(self):
        for members in FAMILIES.values():
            for name, fields in members.items():
                error = getattr(errors, name)
                for k in range(len(ANY)):
                    values = {field: ANY[(k + n) % len(ANY)] for n, field in enumerate(fields)}
                    for made in (error(*values.values()), error(**values)):
                        self.assertEqual(set(vars(made)), set(fields))
                        for field, value in values.items():
                            # The very value is kept, not one like it.
                            self.assertIs(getattr(made, field), value)

    def test_no_fields_more_or_less(self):
        for members in FAMILIES.values():
            for name, fields in members.items():
                for many in range(5):
                    if many != len(fields):
                        with self.assertRaises(TypeError):
                            getattr(errors, name)(*range(many))

    def test_they_can_be_raised_and_caught_by_their_families(self):
        for family, members in FAMILIES.items():
            for name, fields in members.items():
                for caught in (getattr(errors, name), family, PipeError, ValueError):
                    with self.assertRaises(caught):
                        raise getattr(errors, name)(*fields)


if __name__ == "__main__":
    unittest.main()
