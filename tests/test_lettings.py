"""Letting go (points 3, 4, 43, 44 and 45)."""

import unittest

from keptends.errors import NotUsable
from keptends.fates import fates_of
from keptends.lettings import can_be_unread, can_end, can_end_late, can_let_go
from tests.checks import Case
from tests.fateoracle import early_crowds, keys_born, moves, woven
from tests.fatesamples import BOTH, CHAIN, NEVER, ROUND, SELF, keys_of, many_programs, random_lines, small_families
from tests.samples import BREED, JOINS, KID, LATE, MAIN, ODD, PROGRAM, SERVER, random_knots, random_programs

FUNCTIONS = {"end": can_end, "go": can_let_go, "unread": can_be_unread, "late": can_end_late}
NO_PROGRAMS = [thing for thing in ODD if thing != PROGRAM] + [(BOTH, (MAIN, KID))]


def standings(role, start, allowed, every_read=False):
    """All pairs (standing, whether all children have ended) that one process comes to.

    allowed is a dict of the keys of children: whether each can have ended, and
    whether it can be so that nothing more is asked of it.
    """
    seen = {(start, True)}
    ahead = list(seen)
    while ahead:
        standing, all_ended = ahead.pop()
        for word, child, behind in moves(role, standing, every_read):
            ended, other = allowed(child) if child is not None else (True, False)
            for state in [(behind, all_ended)] * ended + [(behind, False)] * other:
                if (word != "wait" or all_ended or every_read) and state not in seen:
                    seen.add(state)
                    ahead.append(state)
    return seen


def lettings_by(program, key):
    """The set of the words of FUNCTIONS that a role with these ends can, by paths of one process."""
    roles = {role[0]: role for role in program[1]}
    keys = keys_born(program, key)
    # Where each read is possible only the role tells what can end.
    free = set()
    table = {each: set() for each in keys}
    while True:
        before = (len(free), sum(len(words) for words in table.values()))
        for name, role in roles.items():
            found = standings(role, (0, ("none", "none"), True), lambda child: (child[0] in free, False), True)
            if any(not standing[2] for standing, _ in found):
                free.add(name)
        for name, ends in keys:
            for word in FUNCTIONS:
                found = standings(roles[name], (0, ends, True), lambda child: (
                    "end" in table[child], word != "end" and word in table[child]))
                if any(is_so(roles[name], word, free, *state) for state in found):
                    table[name, ends].add(word)
        if before == (len(free), sum(len(words) for words in table.values())):
            return table[key]


def is_so(role, word, free, standing, all_ended):
    """Whether what the word asks for holds of a process in this standing, its children aside."""
    place, ends, lives = standing
    if word == "end":
        return not lives and all_ended
    if word == "late":
        behind = standings(role, standing, lambda child: (child[0] in free, False), True)
        return ends[1] == "none" and any(not other[2] for other, _ in behind)
    return ends["rw".index("r" if word == "unread" else "w")] == "none"


def lettings_seen(program, key, most=3, limit=1200):
    """What early weavings of a few processes show of the words, and whether none was left out."""
    crowds, whole = early_crowds(program, key, most, limit)
    let_go = tuple(crowd for crowd in crowds if all(row[3][1] == "none" for row in crowd))
    later, whole_later = woven(program, let_go, most, 3 * limit, True)
    seen = set()
    for word, holds in (
            ("end", any(not any(row[4] for row in crowd) for crowd in crowds)), ("go", let_go),
            ("unread", any(all(row[3][0] == "none" for row in crowd) for crowd in crowds)),
            ("late", any(not any(row[4] for row in crowd) for crowd in later))):
        if holds:
            seen.add(word)
    return seen, whole and whole_later


class Lettings(Case):
    def told(self, program, key):
        """The set of the words that the functions tell, by position and by name."""
        words = set()
        for word, function in FUNCTIONS.items():
            before = repr(program)
            found = function(program, *key)
            self.assertIsInstance(found, bool)
            self.assertIs(function(ends=key[1], program=program, name=key[0]), found)
            self.assertEqual(repr(program), before)
            if found:
                words.add(word)
        return words

    def test_the_examples(self):
        self.assert_same(
            [can_end(LATE, "kid", BOTH), can_let_go(LATE, "kid", BOTH), can_end_late(LATE, "main", BOTH), can_be_unread(LATE, "kid", BOTH)],
            [False, True, True, False])
        self.assert_same(
            [can_let_go(PROGRAM, "main", BOTH), can_let_go(PROGRAM, "main", ("open", "marked")),
             can_be_unread(PROGRAM, "kid", ("marked", "open"))], [False, True, True])

    def assert_alone(self, places, ends, words, asides=()):
        roles = (("a", places, asides), ("b", (("close", "w", 1), ("read", 2), ("end",)), ()), ("s", (("stay",),), ()))
        self.assertEqual(self.told((BOTH, roles), ("a", ends)), set(words))

    def test_by_hand(self):
        every = {"end", "go", "unread", "late"}
        self.assert_alone((("end",),), BOTH, every)
        self.assert_alone((("stay",),), BOTH, ())
        self.assert_alone((("stay",),), ("none", "open"), {"unread"})
        self.assert_alone((("stay",),), ("open", "none"), {"go"})
        self.assert_alone((("stay",),), ("none", "none"), {"go", "unread"})
        self.assert_alone((("close", "w", 1), ("stay",)), BOTH, {"go"})
        self.assert_alone((("mark", "w", 1), ("mark", "r", 1)), BOTH, ())
        # A read with r is not passed early; behind the moment without w it is.
        self.assert_alone((("read", 1), ("end",)), BOTH, ())
        self.assert_alone((("read", 1), ("end",)), ("open", "none"), {"go", "late"})
        self.assert_alone((("read", 1), ("end",)), ("none", "open"), every)
        self.assert_alone((("close", "w", 1), ("read", 2), ("read", 3), ("end",)), BOTH, {"go", "late"})
        self.assert_alone((("read", 1), ("close", "w", 2), ("end",)), BOTH, ())
        self.assert_alone((("close", "w", 1), ("read", 2), ("stay",)), BOTH, {"go"})
        # Children have to let go as well, but none is born by an aside that need not be.
        self.assert_alone((("copy", "s", 1), ("end",)), BOTH, ())
        self.assert_alone((("copy", "s", 1), ("end",)), ("none", "none"), {"go", "unread"})
        self.assert_alone((("start", "s", 1), ("end",)), ("marked", "marked"), {"go", "unread"})
        self.assert_alone((("end",),), BOTH, every, (("copy", "s"),))
        self.assert_alone((("go", (1, 2)), ("copy", "s", 1), ("end",)), BOTH, every)
        self.assert_alone((("copy", "b", 1), ("end",)), BOTH, {"go", "late"})
        # A wait is passed early behind ended ones alone, and late behind ones that can end then.
        self.assert_alone((("copy", "b", 1), ("wait", 2), ("end",)), BOTH, ())
        self.assert_alone((("copy", "b", 1), ("wait", 2), ("end",)), ("none", "open"), every)
        self.assert_alone((("copy", "b", 1), ("close", "w", 2), ("wait", 3), ("end",)), BOTH, {"go", "late"})
        self.assert_alone((("copy", "b", 1), ("close", "w", 2), ("wait", 3), ("stay",)), BOTH, {"go"})
        # What is born late has to end as well.
        self.assert_alone((("close", "w", 1), ("read", 2), ("copy", "b", 3), ("wait", 4), ("end",)), BOTH, {"go", "late"})
        self.assert_alone((("close", "w", 1), ("read", 2), ("copy", "s", 3), ("end",)), BOTH, {"go"})

    def test_waits_for_all_that_came_of_a_child(self):
        # The child ends, or lets go, but what came of it does not end early.
        for last, words in (
                ((("close", "w", 1), ("read", 2), ("end",)), set()), ((("end",),), {"end", "go", "unread", "late"}),
                ((("close", "r", 1), ("close", "w", 2), ("stay",)), set())):
            roles = (("a", (("copy", "b", 1), ("wait", 2), ("close", "w", 3), ("close", "r", 4), ("end",)), ()),
                     ("b", (("copy", "c", 1), ("end",)), ()), ("c", last, ()))
            self.assertEqual(self.told((BOTH, roles), ("a", BOTH)), words)
        # Once a closes w ahead of its wait, what came of its child can end late, and only then.
        roles = (("a", (("copy", "b", 1), ("close", "w", 2), ("wait", 3), ("close", "r", 4), ("end",)), ()),
                 ("b", (("copy", "c", 1), ("end",)), ()), ("c", (("close", "w", 1), ("read", 2), ("end",)), ()))
        self.assertEqual(self.told((BOTH, roles), ("a", BOTH)), {"go", "late"})

    def test_roles_that_bear_themselves(self):
        every = {"end", "go", "unread", "late"}
        self.assertEqual(self.told(SELF, ("a", BOTH)), every)
        self.assertEqual(self.told(NEVER, ("a", BOTH)), set())
        # Without end there is no moment at which none holds w, but with none at birth.
        self.assertEqual(self.told(NEVER, ("a", ("none", "none"))), {"go", "unread"})
        again = (BOTH, (("a", (("copy", "a", 1), ("close", "w", 2), ("close", "r", 3), ("end",)), ()),))
        self.assertEqual(self.told(again, ("a", BOTH)), set())
        first = (BOTH, (("a", (("close", "w", 1), ("copy", "a", 2), ("close", "r", 3), ("end",)), ()),))
        self.assertEqual(self.told(first, ("a", BOTH)), {"go"})
        marked = (("marked", "open"), (("a", (("start", "a", 1), ("close", "w", 2), ("stay",)), ()),))
        self.assertEqual(self.told(marked, ("a", ("open", "marked"))), {"go"})
        self.assertEqual(self.told(ROUND, ("b", BOTH)), every)

    def test_all_ends_as_told_twice(self):
        seen = {}
        programs = (PROGRAM, LATE, BREED, JOINS, SELF, ROUND, NEVER, CHAIN) + tuple(random_programs(44, 20)) + tuple(
            random_knots(44, 20)) + tuple(random_lines(44, 30))
        for program in programs:
            for key in keys_of(program):
                found = self.told(program, key)
                self.assertEqual(found, lettings_by(program, key), (program, key))
                seen[tuple(sorted(found))] = True
        self.assertGreaterEqual(len(seen), 6)

    def test_weavings(self):
        whole_ones, seen = 0, set()
        for program in many_programs(441, 8) + tuple(small_families(441, 50)):
            for key in keys_of(program)[1::2]:
                found = self.told(program, key)
                words, whole = lettings_seen(program, key)
                self.assertLessEqual(words, found, (program, key))
                if whole:
                    whole_ones += 1
                    seen.add(tuple(sorted(words)))
                    self.assertEqual(words, found, (program, key))
        self.assertGreater(whole_ones, 400)
        self.assertGreaterEqual(len(seen), 6)

    def test_begin_means_nothing(self):
        for program in (PROGRAM, LATE, JOINS):
            for begin in (("open", "marked"), ("marked", "open"), ("marked", "marked")):
                for key in keys_of(program):
                    self.assertEqual(self.told((begin, program[1]), key), self.told(program, key))

    def test_not_usable(self):
        no_names = [thing for thing in ODD if thing != "kid"] + ["other", ("kid",), SERVER]
        no_ends = [thing for thing in ODD if thing != BOTH] + [("open",), ("open", "none", "none"), ("Open", "open"), "open"]
        for function in FUNCTIONS.values():
            self.assert_order(NotUsable, function, {"program": PROGRAM, "name": "kid", "ends": BOTH},
                              {"program": NO_PROGRAMS, "name": no_names, "ends": no_ends})


class Consequences(Case):
    def test_point_45(self):
        weaker = {"open": ("marked", "none"), "marked": ("none",), "none": ()}
        for program in many_programs(45, 15):
            table = {key: {word for word, function in FUNCTIONS.items() if function(program, *key)} for key in keys_of(program)}
            for (name, (r, w)), words in table.items():
                self.assertTrue("end" not in words or {"unread", "late"} <= words)
                self.assertTrue("late" not in words or "go" in words)
                self.assertTrue(w != "none" or "go" in words)
                self.assertTrue(r != "none" or "unread" in words)
                self.assertEqual("end" in words, ("ended",) in fates_of(program, name, (r, w)))
                for other in [(less, w) for less in weaker[r]] + [(r, less) for less in weaker[w]]:
                    self.assertLessEqual(words, table[name, other])


if __name__ == "__main__":
    unittest.main()
