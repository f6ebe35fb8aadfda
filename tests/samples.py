"""Programs, runs and odd values that several tests use."""

import random

MAIN = ("main", (("copy", "kid", 1), ("close", "w", 2), ("read", 3), ("end",)), ())
KID = ("kid", (("start", "server", 1), ("close", "r", 2), ("write", 3), ("end",)), ())
SERVER = ("server", (("stay",),), ())
PROGRAM = (("open", "open"), (MAIN, KID, SERVER))
RUN = ((0, "copy", -1), (1, "start", -1), (0, "close", -1), (1, "close", -1), (1, "write", -1), (1, "end", -1))
LATE = (("open", "open"), (
    ("main", (("copy", "kid", 1), ("close", "w", 2), ("wait", 3), ("write", 4), ("end",)), ()),
    ("kid", (("close", "w", 1), ("read", 2), ("end",)), ())))
CHOICE = (("open", "open"), (("a", (("go", (1, 2)), ("close", "w", 2), ("read", 2)), ()),))
# Births without end, by asides and by instructions, with marks and waits.
BREED = (("marked", "open"), (
    ("a", (("go", (0, 1, 2, 3)), ("copy", "b", 0), ("start", "a", 4), ("mark", "w", 0), ("wait", 5), ("end",)),
     (("copy", "b"), ("start", "a"), ("start", "b"))),
    ("b", (("go", (1, 2, 3, 4)), ("write", 0), ("read", 5), ("close", "r", 0), ("close", "w", 0), ("end",)),
     (("start", "c"),)),
    ("c", (("go", (1, 2)), ("stay",), ("end",)), ())))
# Every instruction, an end that no process holds any more, and joins.
JOINS = (("open", "marked"), (
    ("top", (("start", "leaf", 1), ("copy", "mid", 2), ("wait", 3), ("end",)), ()),
    ("mid", (("close", "w", 1), ("copy", "leaf", 2), ("end",)), ()),
    ("leaf", (("go", (1, 2, 3)), ("close", "w", 3), ("close", "r", 4), ("read", 5), ("write", 5), ("stay",)),
     (("copy", "none"),)),
    ("none", (("close", "r", 1), ("close", "w", 2), ("read", 3), ("write", 4), ("end",)), ())))
PROGRAMS = (PROGRAM, LATE, CHOICE, BREED, JOINS, (("marked", "marked"), (SERVER,)))

BIG = 10 ** 60 - 1

# Values of every kind, none of them a part of a program that fits by chance.
ODD = (
    None, True, False, 0, 1, -1, 2, BIG, -BIG, "", " ", "a", "kid", "Kid", "abcdefgh", "abcdefghi", "copy", "start",
    "stay", "end", "r", "w", "rw", "none", "open", "marked", "own", "aside", "go", "-1", "0", "None", (), [],
    (1,), [1], (True,), ("a",), ["a"], ("copy", "kid"), ["copy", "kid"], ("open", "open"), ["open", "open"],
    (("copy", "kid"),), ("stay",), ["stay"], ("close", "w", 0), (0, "end", -1), [0, "end", -1], ((),), ([],), [[]],
    (None, None), (0, 1), (1, 0), (0, 0), ((("a",),),), SERVER, PROGRAM, list(PROGRAM))


def variants(value, others=ODD):
    """All values that differ from the value at one place within it.

    One element is left out, doubled, put in, exchanged with a neighbour or
    with another value, or a tuple is a list; at whatever depth.
    """
    yield from others
    if not isinstance(value, tuple):
        return
    yield list(value)
    yield value + (None,)
    yield value + ((),)
    for k, part in enumerate(value):
        yield value[:k] + value[k + 1:]
        yield value[:k] + (part, part) + value[k + 1:]
        yield value[:k] + value[k + 1:k + 2] + (part,) + value[k + 2:]
        for other in variants(part, others):
            yield value[:k] + (other,) + value[k + 1:]


def random_instruction(rng, places, names):
    """Any instruction whose targets are among so many places, mostly ones that go on."""
    word = rng.choice(("go", "copy", "start", "mark", "close", "read", "write", "wait", "stay", "end"))
    target = rng.randrange(places)
    if word == "go":
        return (word, tuple(sorted(rng.sample(range(places), rng.randint(1, min(3, places))))))
    if word in ("copy", "start"):
        return (word, rng.choice(names), target)
    if word in ("mark", "close"):
        return (word, rng.choice("rw"), target)
    if word in ("read", "write", "wait"):
        return (word, target)
    return (word,)


def random_role(rng, name, names, most=6):
    """Any role of this name with births of these names."""
    many = rng.randint(1, most)
    places = tuple(random_instruction(rng, many, names) for _ in range(many))
    asides = {(rng.choice(("copy", "start")), rng.choice(names)) for _ in range(rng.choice((0, 0, 1, 2)))}
    return (name, places, tuple(sorted(asides)))


def random_program(rng, most_roles=4, most_places=6):
    """Any program of so many roles and places at most."""
    names = rng.sample(("a", "b", "kid", "main", "server", "z", "abcdefgh"), rng.randint(1, most_roles))
    begin = (rng.choice(("open", "marked")), rng.choice(("open", "open", "marked")))
    return (begin, tuple(random_role(rng, name, names, most_places) for name in names))


def random_knot(rng):
    """Any program of short roles that often come to a read, a wait or a stay, with ends held in many ways."""
    names = ("a", "b", "c", "d", "e")[:rng.randint(2, 5)]
    roles = []
    for k, name in enumerate(names):
        words = [rng.choice((
            ("copy", rng.choice(names[k:])), ("copy", rng.choice(names[k:])), ("start", rng.choice(names[k:])),
            ("close", "w"), ("close", "r"), ("mark", rng.choice("rw")))) for _ in range(rng.randint(0, 4))]
        places = tuple(word + (place + 1,) for place, word in enumerate(words))
        last = rng.choice((("read", len(words)), ("wait", len(words)), ("stay",)))
        roles.append((name, places + (last,), rng.choice(((), (("copy", rng.choice(names)),)))))
    return (("open", "open"), tuple(roles))


def random_knots(seed, many):
    """So many programs of random_knot, always the same ones for a seed."""
    rng = random.Random(seed)
    return [random_knot(rng) for _ in range(many)]


def random_programs(seed, many, **limits):
    """So many programs, always the same ones for a seed."""
    rng = random.Random(seed)
    return [random_program(rng, **limits) for _ in range(many)]
