"""Programs and lists of fates that several tests use."""

import random

from tests.fateoracle import FORMS, PAIRS, all_by, closure
from tests.samples import BREED, CHOICE, JOINS, LATE, PROGRAM, PROGRAMS, random_knots, random_programs

BOTH = ("open", "open")
# A copy of PROGRAM in which the server is started without w.
SAFE = (BOTH, (
    PROGRAM[1][0],
    ("kid", (("mark", "w", 1), ("start", "server", 2), ("close", "r", 3), ("write", 4), ("end",)), ()),
    PROGRAM[1][2]))
# One role that bears itself, with and without a way out; two that bear each other; a chain by asides.
SELF = (BOTH, (("a", (("go", (1, 3)), ("copy", "a", 2), ("wait", 0), ("end",)), ()),))
ROUND = (BOTH, (
    ("a", (("copy", "b", 1), ("close", "w", 2), ("wait", 3), ("read", 4), ("end",)), ()),
    ("b", (("go", (1, 4)), ("start", "a", 2), ("mark", "w", 3), ("go", (0, 4)), ("end",)), (("copy", "a"),))))
NEVER = (BOTH, (("a", (("copy", "a", 1), ("wait", 2), ("end",)), ()),))
CHAIN = (("open", "marked"), (
    ("a", (("wait", 1), ("end",)), (("copy", "b"), ("start", "b"))),
    ("b", (("close", "r", 1), ("stay",)), (("copy", "c"),)),
    ("c", (("mark", "w", 1), ("read", 2), ("end",)), (("start", "d"),)),
    ("d", (("go", (0, 1)), ("end",)), ())))
LETTING = (SELF, ROUND, NEVER, CHAIN, SAFE)


def line_of_roles(rng, names, most_places):
    """Roles each of which lets the next one be born, and the last one perhaps the first: a chain or a ring."""
    roles = []
    for k, name in enumerate(names):
        after = names[(k + 1) % len(names)] if k + 1 < len(names) or rng.random() < 0.5 else names[k]
        words = [(rng.choice(("copy", "start")), after)] + [rng.choice((
            ("copy", after), ("start", after), ("close", rng.choice("rw")), ("mark", rng.choice("rw")), ("wait",), ("write",),
            ("read",))) for _ in range(rng.randint(0, most_places - 2))]
        rng.shuffle(words)
        last = rng.choice((("end",), ("end",), ("stay",), ("read", len(words)), ("wait", 0)))
        places = [word + (place + 1,) for place, word in enumerate(words)]
        if rng.random() < 0.6:
            places[0] = ("go", tuple(sorted({1, len(words)})))
        asides = {(rng.choice(("copy", "start")), after)} if rng.random() < 0.3 else set()
        roles.append((name, tuple(places) + (last,), tuple(sorted(asides))))
    return tuple(roles)


def random_lines(seed, many, most_places=8):
    """Programs of chains and rings of up to five roles."""
    rng = random.Random(seed)
    for _ in range(many):
        names = rng.sample(("a", "b", "kid", "main", "z"), rng.randint(1, 5))
        yield ((rng.choice(("open", "open", "marked")), rng.choice(("open", "open", "marked"))),
               line_of_roles(rng, names, most_places))


def small_families(seed, many):
    """Programs by which at most three processes are ever born, and none goes back."""
    rng = random.Random(seed)
    for _ in range(many):
        births = rng.choice(({"a": "b", "b": "c", "c": ""}, {"a": "bc", "b": "", "c": ""}, {"a": "b", "b": "", "c": ""}))
        roles = []
        for name, children in births.items():
            words = [(rng.choice(("copy", "start")), child) for child in children] + [rng.choice((
                ("close", "w"), ("close", "r"), ("mark", rng.choice("rw")), ("wait",), ("wait",), ("write",), ("read",), ("go",)))
                for _ in range(rng.randint(0, 4 - len(children)))]
            rng.shuffle(words)
            places = [word + (place + 1,) if word[0] != "go" else ("go", (place + 1, len(words)))
                      for place, word in enumerate(words)]
            places = [("go", tuple(sorted(set(at[1])))) if at[0] == "go" else at for at in places]
            roles.append((name, tuple(places) + (rng.choice((("end",), ("stay",), ("read", len(words)))),), ()))
        yield (BOTH, tuple(roles))


def many_programs(seed, many=60):
    """The samples and so many programs of each kind."""
    return PROGRAMS + LETTING + tuple(random_programs(seed, many, most_roles=5, most_places=8)) + tuple(
        random_knots(seed, many)) + tuple(random_lines(seed, many))


def without_births(seed, many):
    """Programs whose roles let nothing be born."""
    for program in random_programs(seed, many, most_roles=3, most_places=8):
        roles = tuple((name, tuple(("write", at[2]) if at[0] in ("copy", "start") else at for at in places), ())
                      for name, places, _ in program[1])
        yield (program[0], roles)


def keys_of(program):
    """All pairs of a role and ends."""
    return [(role[0], pair) for role in program[1] for pair in PAIRS]


def wide_list(rng, program, many=2):
    """A closed list with fates, and perhaps entries, that the least one does not have."""
    entries = {entry[:2]: set(entry[2]) for entry in all_by(program)}
    for _ in range(rng.randint(1, many)):
        key = rng.choice(list(entries) + [rng.choice(keys_of(program))])
        entries.setdefault(key, set()).add(rng.choice(FORMS))
    return closure(program, [key + (fates,) for key, fates in entries.items()])


FEW_PROGRAMS = (PROGRAM, LATE, CHOICE, JOINS, BREED) + LETTING
