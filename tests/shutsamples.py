"""Programs and shuts that several tests use."""

import itertools
import random

from tests.fatesamples import BOTH, random_lines
from tests.harmsamples import many_few_runs, many_rounds
from tests.samples import JOINS, KID, LATE, MAIN, ODD, PROGRAM, SERVER, random_knots

GIVEN = (("kid", 0, "mark"), ("kid", 1, "close"), ("main", 0, "mark"))
ALL_WAYS = [ways for many in range(4) for ways in itertools.permutations(("own", "stays", "joins"), many)]
# What is no set of shuts of PROGRAM.
NO_SHUTS = [thing for thing in ODD if thing != ()] + [
    list(GIVEN), GIVEN[::-1], GIVEN + GIVEN[-1:], (("kid", 4, "mark"),), (("kid", True, "mark"),), (("kid", -1, "close"),),
    (("kid", 0, "open"),), (("other", 0, "mark"),), (["kid", 0, "mark"],), (("kid", 0),), (("kid", 0, "mark", 0),),
    GIVEN[:1] + (None,), (("kid", 0, "mark"), ("kid", 0, "close")), GIVEN[0], ("kid", "main"), ((0, "kid", "mark"),)]
NO_WAYS = [thing for thing in ODD if thing != ()] + [("own", "own"), ["own"], ("own", "kept"), "own", ("own", None), (["own"],)]
# A way of hanging for each of some shuts, and some that are needed together.
THREE = (BOTH, (
    ("a", (("copy", "b", 1), ("copy", "c", 2), ("go", (3, 4)), ("read", 4), ("wait", 5), ("end",)), ()),
    ("b", (("close", "r", 1), ("stay",)), ()),
    ("c", (("close", "w", 1), ("read", 2), ("end",)), ())))
TWO_MARKS = (BOTH, (
    ("main", (("start", "server", 1), ("start", "server", 2), ("close", "w", 3), ("read", 4), ("end",)), (("start", "server"),)),
    SERVER))


def all_shuts(program):
    """All shuts of a program, ascending."""
    return sorted((name, place, word) for name, places, _ in program[1] for place in range(len(places)) for word in ("mark", "close"))


def drawn_shuts(rng, program, most=6):
    """A set of some shuts of a program, often with both words at one place."""
    every = all_shuts(program)
    drawn = set(rng.sample(every, min(len(every), rng.randint(0, most))))
    for name, place, _ in list(drawn)[:1]:
        if rng.random() < 0.5 and len(drawn) < most:
            drawn |= {(name, place, "mark"), (name, place, "close")}
    return tuple(sorted(drawn))


def programs_with_shuts(seed, many, most=6):
    """Pairs of a program and a set of some of its shuts, always the same ones for a seed."""
    rng = random.Random(seed)
    programs = [PROGRAM, LATE, JOINS, THREE, TWO_MARKS, (BOTH, (MAIN, KID, SERVER))]
    programs += many_rounds(seed, many) + random_knots(seed, 2 * many) + many_few_runs(seed, many) + list(random_lines(seed, many))
    for program in programs:
        yield program, drawn_shuts(rng, program, most)
