"""Changes of programs (points 11, 12, 14, 15 and 16)."""

import random
import unittest

from keptends.errors import InvalidPaper, NotUsable
from keptends.programchanges import put_in, renamed, with_asides, with_begin, with_births
from keptends.programchanges import with_instruction, with_role, without_role
from keptends.programparts import births_in, names_in
from tests import oracle
from tests.checks import Case, outcome
from tests.samples import BIG, BREED, JOINS, KID, LATE, MAIN, ODD, PROGRAM, PROGRAMS, SERVER
from tests.samples import random_instruction, random_programs, random_role

BOTH = ("open", "open")
END = (("end",),)
NO_PROGRAMS = [thing for thing in ODD if thing != PROGRAM] + [(BOTH, (MAIN, KID))]
NO_NAMES = [thing for thing in ODD if thing != "kid"] + ["other", ["kid"], ("kid",)]
NO_PLACES = [4, BIG, -1, True, False, None, "0", (0,), [0]]
NO_BIRTHS = [thing for thing in ODD if thing not in ("copy", "start")] + ["go", "aside", ["copy"], ("copy",)]
MANY = PROGRAMS + tuple(random_programs(14, 120))
NEW = ("new", (("copy", "kid", 0), ("start", "new", 1)), (("start", "main"),))


class Change(Case):
    def assert_change(self, function, values, wanted, keywords=()):
        """The call returns wanted if that is a program, otherwise it tells its fault."""
        before = repr(values)
        fault = oracle.paper_fault(wanted)
        expected = ("value", wanted) if fault is None else ("InvalidPaper", {"word": fault[0], "at": fault[1]})
        self.assert_same(outcome(function, values, keywords), expected, values)
        self.assertEqual(repr(values), before)


class WithAndWithoutRole(Change):
    def test_at_each_index(self):
        for program in MANY:
            begin, roles = program
            new = ("new", (("copy", roles[0][0], 0),), (("start", "new"),))
            for at in range(len(roles) + 1):
                wanted = (begin, roles[:at] + (new,) + roles[at:])
                self.assert_change(with_role, {"program": program, "role": new, "at": at}, wanted, ("at",))
                self.assert_same(without_role(wanted, "new"), program)
            self.assert_change(with_role, {"program": program, "role": new}, (begin, roles + (new,)))
            self.assert_change(with_role, {"program": program, "role": new, "at": None}, (begin, roles + (new,)), ("at",))

    def test_at_is_passed_by_name_alone(self):
        with self.assertRaises(TypeError):
            with_role(PROGRAM, NEW, 0)

    def test_roles_that_make_no_program(self):
        rng = random.Random(141)
        for program in MANY:
            names = names_in(program) + ("new", "nobody")
            for _ in range(6):
                role = random_role(rng, "new", names, 3)
                if rng.random() < 0.3:
                    role = (role[0], role[1] + (("read", rng.randrange(9)),), role[2])
                at = rng.randint(0, len(program[1]))
                wanted = (program[0], program[1][:at] + (role,) + program[1][at:])
                self.assert_change(with_role, {"program": program, "role": role, "at": at}, wanted, ("at",))

    def test_the_faults_of_a_role_more(self):
        spare = ("spare", (("copy", "other", 1), ("end",)), ())
        self.assert_error(InvalidPaper, {"word": "name", "at": (0, 0)}, with_role, PROGRAM, spare, at=0)
        self.assert_error(InvalidPaper, {"word": "name", "at": (3, 0)}, with_role, PROGRAM, spare)
        self.assert_error(InvalidPaper, {"word": "target", "at": (1, 0)}, with_role, PROGRAM,
                          ("spare", (("read", 1),), ()), at=1)
        self.assert_error(InvalidPaper, {"word": "aside", "at": (2, 1)}, with_role, PROGRAM,
                          ("spare", END, (("copy", "spare"), ("start", "other"))), at=2)

    def test_errors_of_with_role(self):
        no_roles = [thing for thing in ODD if thing != NEW] + [
            MAIN, KID, SERVER, ("kid", END, ()), ["new", END, ()], ("new", [("end",)], ()), ("new", (), ()), ("New", END, ()),
            ("new", (("read", True),), ())]
        no_indexes = [4, BIG, -1, True, False, "0", (), [0], "None"]
        self.assert_order(NotUsable, with_role, {"program": PROGRAM, "role": NEW, "at": 3},
                          {"program": NO_PROGRAMS, "role": no_roles, "at": no_indexes}, ("at",))
        # NotUsable comes ahead of what lets_program would tell.
        self.assert_error(NotUsable, {"word": "at", "at": -1}, with_role, PROGRAM, ("new", (("read", 9),), ()), at=4)

    def test_each_role_taken_out(self):
        for program in MANY:
            for k, role in enumerate(program[1]):
                if len(program[1]) > 1:
                    wanted = (program[0], program[1][:k] + program[1][k + 1:])
                    self.assert_change(without_role, {"program": program, "name": role[0]}, wanted)
                else:
                    self.assert_error(NotUsable, {"word": "name", "at": -1}, without_role, program, role[0])

    def test_the_faults_of_a_role_less(self):
        self.assert_error(InvalidPaper, {"word": "name", "at": (0, 0)}, without_role, PROGRAM, "kid")
        self.assert_error(InvalidPaper, {"word": "name", "at": (1, 0)}, without_role, PROGRAM, "server")
        self.assert_same(without_role(PROGRAM, "main"), (BOTH, (KID, SERVER)))
        self.assert_error(InvalidPaper, {"word": "aside", "at": (0, 0)}, without_role,
                          (BOTH, (("a", END, (("copy", "b"),)), ("b", END, ()))), "b")

    def test_errors_of_without_role(self):
        good = {"program": (BOTH, (KID, SERVER, ("main", END, ()))), "name": "main"}
        self.assert_order(NotUsable, without_role, good,
                          {"program": NO_PROGRAMS, "name": [thing for thing in ODD if thing != "kid"] + ["other"]})


class WithParts(Change):
    def test_with_instruction(self):
        rng = random.Random(142)
        for program in MANY:
            begin, roles = program
            for k, (name, places, asides) in enumerate(roles):
                for place in range(len(places)):
                    names = names_in(program) + ("nobody",)
                    instruction = random_instruction(rng, len(places) + rng.choice((0, 0, 2)), names)
                    role = (name, places[:place] + (instruction,) + places[place + 1:], asides)
                    self.assert_change(
                        with_instruction,
                        {"program": program, "name": name, "place": place, "instruction": instruction},
                        (begin, roles[:k] + (role,) + roles[k + 1:]))

    def test_the_faults_of_another_instruction(self):
        self.assert_error(InvalidPaper, {"word": "target", "at": (1, 2)}, with_instruction, PROGRAM, "kid", 2, ("read", 4))
        self.assert_error(InvalidPaper, {"word": "name", "at": (1, 3)}, with_instruction, PROGRAM, "kid", 3,
                          ("start", "nobody", 0))
        self.assert_error(InvalidPaper, {"word": "target", "at": (1, 3)}, with_instruction, PROGRAM, "kid", 3,
                          ("start", "nobody", BIG))

    def test_errors_of_with_instruction(self):
        good = {"program": PROGRAM, "name": "kid", "place": 3, "instruction": ("stay",)}
        no_instructions = [thing for thing in ODD if not oracle.is_form("is_instruction", thing)] + [
            ("go", ()), ("go", (1, 0)), ("go", [0]), ("close", "w"), ("aside", 0), ("read", True)]
        self.assert_order(NotUsable, with_instruction, good, {
            "program": NO_PROGRAMS, "name": NO_NAMES, "place": NO_PLACES, "instruction": no_instructions})

    def test_with_asides(self):
        pairs = [("copy", "kid"), ("copy", "main"), ("copy", "nobody"), ("start", "kid"), ("start", "nobody")]
        for program in (PROGRAM, LATE):
            for k, (name, places, _) in enumerate(program[1]):
                for chosen in range(2 ** len(pairs)):
                    asides = tuple(pair for n, pair in enumerate(pairs) if chosen >> n & 1)
                    role = (name, places, asides)
                    self.assert_change(with_asides, {"program": program, "name": name, "asides": asides},
                                       (program[0], program[1][:k] + (role,) + program[1][k + 1:]))
        self.assert_same(with_asides(BREED, "a", ())[1][0][2], ())

    def test_errors_of_with_asides(self):
        good = {"program": PROGRAM, "name": "kid", "asides": (("copy", "kid"),)}
        no_asides = [thing for thing in ODD if not oracle.is_form("is_asides", thing)] + [
            (("start", "kid"), ("copy", "kid")), (("copy", "kid"), ("copy", "kid")), [("copy", "kid")],
            (["copy", "kid"],)]
        self.assert_order(NotUsable, with_asides, good,
                          {"program": NO_PROGRAMS, "name": NO_NAMES, "asides": no_asides})

    def test_with_begin(self):
        for program in MANY:
            for r in ("open", "marked"):
                for w in ("open", "marked"):
                    self.assert_change(with_begin, {"program": program, "begin": (r, w)}, ((r, w), program[1]))
        no_begins = [thing for thing in ODD if thing != BOTH] + [
            ("none", "open"), ("open", "none"), ("open",), ("open", "open", "open"), ["marked", "open"], ("open", None)]
        self.assert_order(NotUsable, with_begin, {"program": PROGRAM, "begin": BOTH},
                          {"program": NO_PROGRAMS, "begin": no_begins})

    def test_with_births(self):
        for program in MANY:
            for word in ("copy", "start"):
                roles = []
                for name, places, asides in program[1]:
                    by = tuple((word,) + place[1:] if place[0] in ("copy", "start") else place for place in places)
                    roles.append((name, by, tuple(sorted({(word, aside[1]) for aside in asides}))))
                self.assert_change(with_births, {"program": program, "word": word}, (program[0], tuple(roles)))
        self.assert_order(NotUsable, with_births, {"program": PROGRAM, "word": "copy"},
                          {"program": NO_PROGRAMS, "word": NO_BIRTHS})

    def test_asides_that_become_one(self):
        asides = (("copy", "a"), ("copy", "b"), ("start", "a"), ("start", "c"))
        program = (BOTH, (("a", END, asides), ("b", END, (("start", "a"),)), ("c", END, ())))
        for word in ("copy", "start"):
            self.assert_same(with_births(program, word)[1][0][2], ((word, "a"), (word, "b"), (word, "c")))
            self.assert_same(with_births(program, word)[1][1][2], ((word, "a"),))

    def test_the_examples(self):
        self.assert_same(with_births(PROGRAM, "start")[1][0][1][0], ("start", "kid", 1))
        self.assert_same(renamed(PROGRAM, "kid", "a")[1][0][1][0], ("copy", "a", 1))


class Renamed(Change):
    NAMES = ("a", "z", "aa", "zzzzzzzz", "kid", "main", "server", "read", "role", "copy", "start", "end", "stay", "w", "r",
             "open", "none", "go")

    @staticmethod
    def by_hand(program, old, new):
        """The program with the name exchanged wherever a name stands."""
        def now(name):
            return new if name == old else name
        roles = []
        for name, places, asides in program[1]:
            places = tuple((place[0], now(place[1]), place[2]) if place[0] in ("copy", "start") else place
                           for place in places)
            roles.append((now(name), places, tuple(sorted((word, now(other)) for word, other in asides))))
        return (program[0], tuple(roles))

    def test_renamed(self):
        for program in MANY:
            names = names_in(program)
            for old in names:
                for new in self.NAMES + (old,):
                    if new == old or new not in names:
                        late = self.by_hand(program, old, new)
                        self.assert_change(renamed, {"program": program, "old": old, "new": new}, late)
                        self.assert_same(renamed(late, new, old), program)
                    else:
                        self.assert_error(NotUsable, {"word": "new", "at": -1}, renamed, program, old, new)

    def test_names_that_are_words(self):
        # Only names change, not the words of instructions and ends.
        role = ("copy", (("copy", "copy", 0), ("mark", "r", 0), ("close", "w", 0)), (("copy", "copy"), ("start", "copy")))
        self.assert_same(renamed((BOTH, (role,)), "copy", "start"), (BOTH, (
            ("start", (("copy", "start", 0), ("mark", "r", 0), ("close", "w", 0)), (("copy", "start"), ("start", "start"))),)))
        role = ("r", (("mark", "r", 0), ("start", "r", 0)), (("copy", "r"),))
        self.assert_same(renamed((BOTH, (role,)), "r", "w"),
                         (BOTH, (("w", (("mark", "r", 0), ("start", "w", 0)), (("copy", "w"),)),)))

    def test_asides_ascend_by_the_new_names(self):
        asides = (("copy", "b"), ("copy", "c"), ("start", "b"), ("start", "d"))
        program = (BOTH, (("b", END, asides), ("c", END, ()), ("d", END, ())))
        self.assert_same(renamed(program, "b", "z")[1][0], (
            "z", END, (("copy", "c"), ("copy", "z"), ("start", "d"), ("start", "z"))))
        self.assert_same(renamed(program, "d", "a")[1][0], (
            "b", END, (("copy", "b"), ("copy", "c"), ("start", "a"), ("start", "b"))))

    def test_two_names_exchanged_by_way_of_a_third(self):
        for program in MANY:
            names = names_in(program)
            for one in names:
                for other in names:
                    if one < other:
                        late = renamed(renamed(renamed(program, one, "third"), other, one), "third", other)
                        back = renamed(renamed(renamed(late, other, "third"), one, other), "third", one)
                        self.assert_same(back, program)
                        self.assert_same(
                            names_in(late), tuple({one: other, other: one}.get(name, name) for name in names))

    def test_errors(self):
        no_names = [thing for thing in ODD if not oracle.is_form("is_name", thing)]
        self.assert_order(NotUsable, renamed, {"program": PROGRAM, "old": "kid", "new": "new"}, {
            "program": NO_PROGRAMS, "old": NO_NAMES, "new": no_names + ["main", "server", "New", "abcdefghi", ["new"]]})


class PutIn(Change):
    PAIRS = tuple((word, end) for word in ("mark", "close") for end in ("r", "w"))

    @staticmethod
    def by_hand(program, name, place, pair):
        """The program with the pair put in, by counting the places anew."""
        def now(target):
            return target if target < place else place if target == place else target + 1
        roles = []
        for role in program[1]:
            if role[0] == name:
                places = []
                for k, instruction in enumerate(role[1]):
                    if k == place:
                        places.append(pair + (place + 1,))
                    if instruction[0] == "go":
                        places.append(("go", tuple(now(target) for target in instruction[1])))
                    else:
                        places.append(tuple(now(part) if isinstance(part, int) else part for part in instruction))
                role = (name, tuple(places), role[2])
            roles.append(role)
        return (program[0], tuple(roles))

    def test_ahead_of_each_place(self):
        for program in MANY:
            for name, places, _ in program[1]:
                for place in range(len(places)):
                    for pair in self.PAIRS:
                        values = {"program": program, "name": name, "place": place, "instruction": pair}
                        self.assert_change(put_in, values, self.by_hand(program, name, place, pair))

    def test_by_hand(self):
        self.assert_same(put_in(PROGRAM, "kid", 1, ("close", "w"))[1][1][1],
                         (("start", "server", 1), ("close", "w", 2), ("close", "r", 3), ("write", 4), ("end",)))
        self.assert_same(put_in(PROGRAM, "server", 0, ("mark", "r"))[1][2], ("server", (("mark", "r", 1), ("stay",)), ()))
        # The instruction that was there may lead to itself, and to places behind and ahead.
        ring = (BOTH, (("a", (("go", (0, 1, 2)), ("go", (0, 1, 2)), ("read", 1)), ()),))
        self.assert_same(put_in(ring, "a", 1, ("mark", "w"))[1][0][1],
                         (("go", (0, 1, 3)), ("mark", "w", 2), ("go", (0, 1, 3)), ("read", 1)))

    def test_several_one_behind_the_other(self):
        late = PROGRAM
        for pair in (("mark", "w"), ("close", "w"), ("mark", "r")):
            late = put_in(late, "kid", 0, pair)
        self.assert_same(late[1][1][1], (
            ("mark", "r", 1), ("close", "w", 2), ("mark", "w", 3), ("start", "server", 4), ("close", "r", 5), ("write", 6),
            ("end",)))
        rng = random.Random(15)
        for program in MANY:
            late = wanted = program
            for _ in range(5):
                name, places, _ = rng.choice(late[1])
                place, pair = rng.randrange(len(places)), rng.choice(self.PAIRS)
                late, wanted = put_in(late, name, place, pair), self.by_hand(wanted, name, place, pair)
                self.assert_same(late, wanted)

    def test_it_changes_no_births(self):
        for program in MANY:
            for name, places, _ in program[1]:
                for place in range(len(places)):
                    late = put_in(program, name, place, ("close", "r"))
                    for other in names_in(program):
                        self.assert_same(births_in(late, other), births_in(program, other))

    def test_errors(self):
        good = {"program": PROGRAM, "name": "kid", "place": 0, "instruction": ("mark", "w")}
        no_pairs = list(ODD) + [("mark", "w", 0), ("mark",), ["mark", "w"], ("mark", "x"), ("read", "w"), ("mark", None),
                                ("copy", "r"), ("mark", ["w"]), ("w", "mark"), "mw", (("mark",), "w")]
        self.assert_order(NotUsable, put_in, good, {
            "program": NO_PROGRAMS, "name": NO_NAMES, "place": NO_PLACES, "instruction": no_pairs})


class Consequences(Change):
    def test_without_role_takes_back_with_role(self):
        for program in MANY + (JOINS,):
            for at in range(len(program[1]) + 1):
                self.assert_same(without_role(with_role(program, ("new", END, (("copy", "new"),)), at=at), "new"), program)


if __name__ == "__main__":
    unittest.main()
