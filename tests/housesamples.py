"""Events, and houses that are led by them, for several tests."""

import random

from keptends.errors import InvalidEvent
from keptends.houses import House
from tests.harmsamples import TOLD, UNHEARD, many_few_runs, many_rounds
from tests.houseoracle import Plain
from tests.samples import BREED, CHOICE, JOINS, LATE, ODD, PROGRAM, RUN, random_knots

EVENTS = (("step", (0, "copy", -1)), ("step", (2, "go", 3)), ("step", (0, "aside", 0)), ("careful", "on"), ("careful", "off"),
          ("mark", "a"), ("mark", "abcdefgh"))
# What is no event by form.
NO_EVENTS = ODD + (
    ("step",), ("step", (0, "copy", 0)), ("step", (0, "stay", -1)), ("step", [0, "copy", -1]), ("step", (True, "copy", -1)),
    ("step", (0, "copy", -1), 0), ["step", (0, "copy", -1)], ("careful", "On"), ("careful", True), ("careful", ("on",)), ("careful",),
    ("mark", "A"), ("mark", ""), ("mark", "abcdefghi"), ("mark", ("a",)), ("mark", "a", "b"), ("undo", "a"), ("Step", (0, "copy", -1)),
    (("step",), (0, "copy", -1)), ("step", "mark", "careful"), ([], "on"), (None, "on"), (0, "copy", -1), ("house", PROGRAM, "on"))
# One that waits for what it bears, again and again.
WAITER = (("open", "marked"), (
    ("a", (("copy", "b", 1), ("wait", 2), ("start", "b", 3), ("wait", 0)), (("copy", "b"),)),
    ("b", (("go", (1, 2)), ("write", 2), ("end",)), ())))
HOUSES = (PROGRAM, LATE, CHOICE, BREED, JOINS, TOLD, UNHEARD, WAITER)


def drawn_event(rng, plain):
    """Any event, mostly a step that is possible."""
    steps = plain.world().possible()
    kind = rng.random()
    if kind < 0.66 and steps:
        return ("step", rng.choice(steps))
    if kind < 0.74:
        # Often what is to be done there, but perhaps not yet.
        one = rng.choice(plain.world().processes)
        return ("step", (one.number, rng.choice((one.at()[0], one.at()[0], "copy", "read")), -1))
    if kind < 0.8:
        return ("step", (rng.randrange(3), rng.choice(("go", "aside")), rng.randrange(3)))
    if kind < 0.88:
        return ("careful", rng.choice(("on", "off")))
    if kind < 0.95:
        return ("mark", rng.choice(("a", "b", "kid", "abcdefgh")))
    return rng.choice(NO_EVENTS)


def many_houses(seed, many):
    """Programs and words of the beginning, always the same ones for a seed."""
    rng = random.Random(seed)
    programs = list(HOUSES) + many_rounds(seed, many) + many_few_runs(seed, many) + random_knots(seed, many)
    for program in programs:
        yield program, rng.choice(("on", "off", "off"))


def led(rng, program, careful, length):
    """A house, and one told a second time, behind so many drawn events, possible or not."""
    house, plain = House(program, careful=careful), Plain(program, careful)
    for _ in range(length):
        event = drawn_event(rng, plain)
        if plain.do(event) is None:
            house.happen(event)
    return house, plain


def reason_told(function, *args, **named):
    """What a call returns, or the event and the reason of its InvalidEvent."""
    try:
        return ("value", function(*args, **named))
    except InvalidEvent as error:
        return (error.reason, error.event)


FULL = tuple(("mark", "m" + "abcdefghij"[k // 10] + "abcdefghij"[k % 10]) for k in range(41))
STEPS = tuple(("step", step) for step in RUN)
