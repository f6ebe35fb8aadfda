"""Runs that several tests use."""

import random

from tests.oracle import World, random_run
from tests.samples import BREED, CHOICE, JOINS, KID, LATE, MAIN, ODD, PROGRAM, PROGRAMS, RUN
from tests.samples import random_knots, random_programs

STEPS = tuple(
    (process, word, number) for process in range(4) for number in (-1, 0, 1, 2, 3)
    for word in ("aside", "close", "copy", "end", "go", "mark", "read", "start", "stay", "wait", "write"))
# What is no program, and what is no run of PROGRAM.
NO_PROGRAMS = [thing for thing in ODD if thing != PROGRAM] + [(("open", "open"), (MAIN, KID))]
NO_RUNS = [thing for thing in ODD if thing != ()] + [
    list(RUN), RUN + (RUN[0],), RUN[1:], ((0, "copy", 0),), ((True, "copy", -1),), ([0, "copy", -1],), (None,),
    RUN + ((0, "read", -1),)]


def many_runs(seed, each=4, programs=120):
    """Pairs of a program and a run of it: of the samples and of random programs."""
    rng = random.Random(seed)
    for program in PROGRAMS + tuple(random_programs(seed, programs)):
        for _ in range(each):
            yield program, random_run(rng, program, rng.choice((0, 1, 3, 6, 12)))
    for program in random_knots(seed, programs):
        yield program, random_run(rng, program, rng.choice((4, 8, 12)))
    for program in (BREED, JOINS):
        yield program, random_run(rng, program, 40)
    yield BREED, random_run(rng, BREED, 60)


def beginnings(run):
    """All beginnings of a run, the empty one and all of it among them."""
    return [run[:k] for k in range(len(run) + 1)]


def all_runs(program, length):
    """All runs with so many steps, ascending, by trying all steps behind all shorter ones."""
    runs = [()]
    for _ in range(length):
        runs = [run + (step,) for run in runs for step in World(program, run).possible()]
    return sorted(runs)


FEW = ((PROGRAM, RUN), (LATE, ((0, "copy", -1), (1, "close", -1), (0, "close", -1), (1, "read", -1), (1, "end", -1),
                               (0, "wait", -1), (0, "write", -1), (0, "end", -1))),
       (CHOICE, ((0, "go", 1), (0, "close", -1), (0, "read", -1), (0, "read", -1))))
