"""Programs as objects (points 19 to 22)."""

import copy
import random
import unittest

from keptends import programchanges
from keptends.errors import InvalidPaper, NotUsable, InvalidText
from keptends.programchecker import lets_program
from keptends.programclasses import Program, Reborn
from keptends.programparts import births_in, names_in, role_in
from keptends.programreadings import read_program
from keptends.programtexts import program_text
from tests import oracle
from tests.checks import Case
from tests.samples import BIG, BREED, JOINS, KID, MAIN, ODD, PROGRAM, PROGRAMS, SERVER, random_programs, variants

BOTH = ("open", "open")
END = (("end",),)
MANY = PROGRAMS + tuple(random_programs(19, 60))
NEW = ("new", (("copy", "new", 0),), ())


def told(function, *args):
    """What a call returns, a Program as its form, or raises."""
    try:
        found = function(*args)
    except ValueError as error:
        return (type(error).__name__, vars(error))
    if isinstance(found, Program):
        return (type(found).__name__, found.form_now)
    return ("value", found)


class Objects(Case):
    def each(self):
        """Pairs of a form and an object with it, Reborn ones too."""
        for program in MANY:
            yield program, Program(*program)
            yield program, Program(begin=program[0], roles=program[1])
            for word in ("copy", "start"):
                yield programchanges.with_births(program, word), Reborn(*program, word)

    def assert_unchanged(self, form, one):
        """The object is as it was when it had this form."""
        self.assert_same(one.form_now, form)
        self.assert_same((one.begin_now, one.roles_now), form)
        self.assert_same(one.names_now, names_in(form))
        self.assert_same(list(one), list(names_in(form)))


class Values(Objects):
    def test_properties(self):
        for form, one in self.each():
            self.assert_same(one.begin_now, form[0])
            self.assert_same(one.roles_now, form[1])
            self.assert_same(one.form_now, form)
            self.assert_same(one.names_now, tuple(role[0] for role in form[1]))

    def test_properties_cannot_be_assigned(self):
        for one in (Program(*PROGRAM), Reborn(*PROGRAM, "copy")):
            for name in ("begin_now", "roles_now", "form_now", "names_now"):
                with self.assertRaises(AttributeError):
                    setattr(one, name, ())
        for name in ("source_now", "birth_now"):
            with self.assertRaises(AttributeError):
                setattr(one, name, ())

    def test_parts(self):
        for form, one in self.each():
            for role in form[1]:
                self.assert_same(one[role[0]], role)
                self.assert_same(one(role[0]), births_in(form, role[0]))
                self.assert_same(one(name=role[0]), births_in(form, role[0]))
                self.assertIs(role[0] in one, True)
            self.assert_same(len(one), len(form[1]))
            self.assert_same([name for name in one], [role[0] for role in form[1]])
            self.assert_same(list(zip(one, one)), [(role[0], role[0]) for role in form[1]])
            self.assertIs(type(str(one)), str)
            self.assert_same(str(one), program_text(form))

    def test_parts_of_odd_values(self):
        one = Program(*PROGRAM)
        for odd in ODD + ("other", one, Reborn(*PROGRAM, "copy"), SERVER, slice(0, 1)):
            if odd != "kid":
                self.assert_error(NotUsable, {"word": "name", "at": -1}, lambda: one[odd])
                self.assert_error(NotUsable, {"word": "name", "at": -1}, one, odd)
                self.assertIs(odd in one, False)
        self.assertIs("kid" in one, True)
        self.assert_same(one["kid"], role_in(PROGRAM, "kid"))

    def test_errors_of_program(self):
        rng = random.Random(191)
        things = [thing for program in PROGRAMS for thing in variants(program)
                  if isinstance(thing, tuple) and len(thing) == 2]
        for thing in rng.sample(things, 1500) + [(begin, roles) for begin in ODD for roles in ODD[::3]]:
            fault = oracle.paper_fault(thing)
            if fault is None:
                self.assert_same(Program(*thing).form_now, thing)
            else:
                fields = {"word": fault[0], "at": fault[1]}
                self.assert_error(InvalidPaper, fields, Program, *thing)
                self.assert_error(InvalidPaper, fields, Program, begin=thing[0], roles=thing[1])
                self.assert_error(InvalidPaper, fields, Reborn, *thing, None)
                self.assert_error(InvalidPaper, fields, Reborn, *thing, "copy")

    def test_equal(self):
        forms = MANY + ((("open", "marked"), PROGRAM[1]), (BOTH, (KID, SERVER, MAIN)), (BOTH, PROGRAM[1][::-1]))
        objects = [Program(*form) for form in forms] + [Reborn(*form, "start") for form in forms]
        for one in objects:
            for other in objects:
                wanted = one.form_now == other.form_now
                for found in (one == other, other == one, not one != other, not other != one):
                    self.assertIs(found, wanted)
            for odd in ODD + (one.form_now, str(one), one.roles_now, object()):
                self.assertIs(one == odd, False)
                self.assertIs(odd == one, False)
                self.assertIs(one != odd, True)
                self.assertIs(odd != one, True)

    def test_within(self):
        one = Program(*PROGRAM)
        self.assertIs(Program.of(SERVER) <= one, True)
        self.assertIs(Program.of(SERVER, begin=("marked", "open")) <= one, True)
        self.assertIs(one <= Program.of(SERVER), False)
        self.assertIs(Program.of(SERVER, KID) <= one, True)
        self.assertIs(one <= Program.of(SERVER, MAIN, KID), True)
        # As it is: the same name alone does not do.
        self.assertIs(Program.of(("server", END, ())) <= one, False)
        self.assertIs(Program.of(("server", (("stay",),), (("copy", "server"),))) <= one, False)
        self.assertIs(one % "copy" <= one, False)
        objects = [known for program in MANY for known in (Program(*program), Reborn(*program, "copy"))]
        for known in objects:
            for other in objects:
                self.assertIs(known <= other, set(known.roles_now) <= set(other.roles_now))
            for odd in ODD + (known.form_now,):
                self.assert_error(NotUsable, {"word": "other", "at": -1}, lambda: known <= odd)


class Changes(Objects):
    def each_change(self, one, form, rng):
        """Pairs of a change of an object and of what the functions do with its form."""
        names = list(names_in(form)) + ["new", "nobody"]
        odd = rng.choice(ODD)
        name, other = rng.choice(names), rng.choice(names)
        place = rng.randrange(5)
        role = rng.choice((NEW, ("new", (("copy", other, 0),), ()), ("new", (("read", 3),), ()), SERVER, odd))
        word = rng.choice(("copy", "start", odd))
        begin = rng.choice((BOTH, ("marked", "open"), ("none", "open"), odd))
        place_word = rng.choice((("stay",), ("read", place), ("copy", other, 0), ("go", (0, place)), odd))
        asides = rng.choice(((), (("copy", other),), (("copy", name), ("start", "nobody")), odd))
        pair = rng.choice((("mark", "w"), ("close", "r"), ("read", "w"), odd))
        change = programchanges
        yield (lambda: one + role), (change.with_role, form, role)
        yield (lambda: one.ahead(role)), (lambda: change.with_role(form, role, at=0),)
        yield (lambda: one.ahead(role=role)), (lambda: change.with_role(form, role, at=0),)
        yield (lambda: one - name), (change.without_role, form, name)
        yield (lambda: one - odd), (change.without_role, form, odd)
        yield (lambda: one % word), (change.with_births, form, word)
        yield (lambda: one.begun(begin)), (change.with_begin, form, begin)
        yield (lambda: one.begun(begin=begin)), (change.with_begin, form, begin)
        yield (lambda: one.placed(name, place, place_word)), (change.with_instruction, form, name, place, place_word)
        yield (lambda: one.placed(place=place, instruction=place_word, name=name)), (
            change.with_instruction, form, name, place, place_word)
        yield (lambda: one.placed(odd, odd, odd)), (change.with_instruction, form, odd, odd, odd)
        yield (lambda: one.beside(name, asides)), (change.with_asides, form, name, asides)
        yield (lambda: one.beside(asides=asides, name=name)), (change.with_asides, form, name, asides)
        yield (lambda: one.called(name, other)), (change.renamed, form, name, other)
        yield (lambda: one.called(new=other, old=name)), (change.renamed, form, name, other)
        yield (lambda: one.called(name, odd)), (change.renamed, form, name, odd)
        yield (lambda: one.shut_at(name, place, pair)), (change.put_in, form, name, place, pair)
        yield (lambda: one.shut_at(instruction=pair, place=place, name=name)), (change.put_in, form, name, place, pair)
        yield (lambda: one.shut_at(name, odd, odd)), (change.put_in, form, name, odd, odd)

    def test_as_the_functions_have_it(self):
        rng = random.Random(20)
        seen = set()
        for _ in range(8):
            for form, one in self.each():
                for found, wanted in self.each_change(one, form, rng):
                    kept = copy.deepcopy(form)
                    expected = told(*wanted)
                    if expected[0] == "value":
                        expected = ("Program", expected[1])
                    self.assert_same(told(found), expected)
                    self.assert_unchanged(kept, one)
                    seen.add((expected[0], str(expected[1].get("word")) if isinstance(expected[1], dict) else ""))
        self.assertEqual(seen, {("Program", "")} | {("NotUsable", word) for word in (
            "role", "name", "word", "begin", "place", "instruction", "asides", "old", "new")} | {
                ("InvalidPaper", word) for word in ("target", "name", "aside")})

    def test_by_hand(self):
        one = Program.of(MAIN, KID, SERVER)
        self.assert_same((one + NEW).roles_now, (MAIN, KID, SERVER, NEW))
        self.assert_same(one.ahead(NEW).roles_now, (NEW, MAIN, KID, SERVER))
        self.assert_same((one - "main").roles_now, (KID, SERVER))
        self.assert_same((one % "copy")("kid"), (("copy", "server"),))
        self.assert_same(one.begun(("marked", "open")).form_now, (("marked", "open"), PROGRAM[1]))
        self.assert_same(one.placed("server", 0, ("end",))["server"], ("server", END, ()))
        self.assert_same(one.beside("server", (("copy", "kid"),))("server"), (("copy", "kid"),))
        self.assert_same(one.called("kid", "a").names_now, ("main", "a", "server"))
        self.assert_same(one.shut_at("server", 0, ("close", "w"))["server"], ("server", (("close", "w", 1), ("stay",)), ()))
        self.assert_error(InvalidPaper, {"word": "name", "at": (1, 0)}, lambda: one - "server")
        self.assert_error(NotUsable, {"word": "name", "at": -1}, lambda: Program.of(SERVER) - "server")
        self.assert_error(NotUsable, {"word": "role", "at": -1}, lambda: one + one)
        self.assert_error(NotUsable, {"word": "word", "at": -1}, lambda: one % one)

    def test_what_a_reborn_returns_is_a_program(self):
        one = Reborn(BREED[0], BREED[1], "start")
        new = ("new", END, ())
        for late in (one + new, one.ahead(new), (one + new) - "new", one % "copy", one.begun(BOTH), one.placed("c", 1, ("end",)),
                     one.beside("c", ()), one.called("a", "z"), one.shut_at("a", 0, ("mark", "r"))):
            self.assertIs(type(late), Program)
        # Births by copy that come in later stay so.
        self.assert_same((one + NEW)("new"), (("copy", "new"),))

    def test_of(self):
        for program in MANY:
            one = Program.of(*program[1], begin=program[0])
            self.assertIs(type(one), Program)
            self.assert_same(one.form_now, program)
            self.assert_same(Program.of(*program[1]).form_now, (BOTH, program[1]))
        self.assert_error(InvalidPaper, {"word": "shape", "at": -1}, Program.of)
        self.assert_error(InvalidPaper, {"word": "shape", "at": -1}, Program.of, begin=("open", "none"))
        self.assert_error(InvalidPaper, {"word": "begin", "at": -1}, Program.of, None, begin=("open", "none"))
        self.assert_error(InvalidPaper, {"word": "role", "at": 0}, Program.of, None)
        self.assert_error(InvalidPaper, {"word": "role", "at": 0}, Program.of, ())
        self.assert_error(InvalidPaper, {"word": "role", "at": 0}, Program.of, BOTH, PROGRAM[1])
        self.assert_error(InvalidPaper, {"word": "name", "at": (0, 0)}, Program.of, MAIN, SERVER)
        rng = random.Random(201)
        for _ in range(300):
            begin, roles = rng.choice(ODD), tuple(rng.choice(ODD + (SERVER, KID, MAIN)) for _ in range(rng.randrange(4)))
            fault = oracle.paper_fault((begin, roles))
            if fault is not None:
                self.assert_error(InvalidPaper, {"word": fault[0], "at": fault[1]}, Program.of, *roles, begin=begin)

    def test_of_is_static_and_read_is_a_class_method(self):
        self.assertIsInstance(vars(Program)["of"], staticmethod)
        self.assertIsInstance(vars(Program)["read"], classmethod)
        self.assertIs(type(Program(*PROGRAM).of(SERVER)), Program)

    def test_read(self):
        for program in MANY:
            self.assert_same(Program.read(program_text(program)).form_now, program)
            self.assertIs(type(Program.read(text=program_text(program))), Program)
        self.assert_error(InvalidText, {"line": 0, "field": 0}, Program.read, "")
        self.assert_error(InvalidText, {"line": 2, "field": 1}, Program.read, "begin open open\nrole a\nread x\nrole a")
        self.assert_error(InvalidPaper, {"word": "target", "at": (0, 0)}, Program.read, "begin open open\nrole a\nread 7")
        self.assert_error(InvalidPaper, {"word": "twice", "at": 1}, Program.read,
                          "begin open open\nrole a\nread 7\nrole a\nend")
        for odd in ODD:
            if not isinstance(odd, str):
                self.assert_error(NotUsable, {"word": "text", "at": -1}, Program.read, odd)
        rng = random.Random(202)
        for text in (program_text(PROGRAM), program_text(JOINS)):
            lines = text.split("\n")
            for _ in range(300):
                k = rng.randrange(len(lines))
                other = "\n".join(lines[:k] + [rng.choice(lines + ["read 9", "copy no 0", "aside copy no"])] + lines[k + 1:])
                wanted = told(lambda: Program(*read_program(other)))
                self.assert_same(told(Program.read, other), wanted)


class RebornOnes(Objects):
    def test_values(self):
        for program in MANY:
            for word in ("copy", "start"):
                one = Reborn(*program, word)
                self.assertIsInstance(one, Program)
                self.assert_same(one.source_now, program)
                self.assert_same(one.birth_now, word)
                self.assert_same(one.form_now, programchanges.with_births(program, word))
                self.assertTrue(one == Program(*program) % word)
                self.assertTrue(Program(*program) % word == one)
                self.assert_same(Reborn(begin=program[0], roles=program[1], word=word).form_now, one.form_now)
                self.assert_same(lets_program(one.form_now), len(one))

    def test_derived_directly(self):
        self.assertEqual(Reborn.__bases__, (Program,))
        self.assertEqual(Program.__bases__, (object,))

    def test_source_as_it_was_given(self):
        begin, roles = PROGRAM
        one = Reborn(begin, roles, "copy")
        self.assertIs(one.source_now[0], begin)
        self.assertIs(one.source_now[1], roles)

    def test_errors(self):
        for odd in ODD + ("go", "aside", ["copy"], ("copy",), Program(*PROGRAM)):
            if odd not in ("copy", "start"):
                self.assert_error(NotUsable, {"word": "word", "at": -1}, Reborn, *PROGRAM, odd)
                self.assert_error(InvalidPaper, {"word": "name", "at": (1, 0)}, Reborn, BOTH, (MAIN, KID), odd)
                self.assert_error(InvalidPaper, {"word": "begin", "at": -1}, Reborn, ("none", "open"), (MAIN, KID), odd)
                self.assert_error(InvalidPaper, {"word": "shape", "at": -1}, Reborn, BOTH, (), odd)


class Consequences(Objects):
    def test_point_22(self):
        for form, one in self.each():
            self.assertTrue(Program.read(str(one)) == one)
            for role in (NEW, ("new", END, (("start", form[1][0][0]),))):
                self.assertTrue((one + role) - "new" == one)
                self.assertTrue(one.ahead(role) - "new" == one)
                self.assertTrue(one <= one + role)
        self.assert_error(InvalidPaper, {"word": "target", "at": (1, 0)},
                          lambda: Program.of(SERVER) + ("a", (("read", BIG),), ()))


if __name__ == "__main__":
    unittest.main()
