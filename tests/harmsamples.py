"""Programs whose processes often let go of w, and then go on, for the tests of harms."""

import random

from tests.fatesamples import BOTH

WORDS = (("close", "w"), ("close", "w"), ("close", "r"), ("mark", "r"), ("mark", "w"), ("wait",), ("write",), ("read",), ("go",))
LASTS = (("end",), ("end",), ("stay",))


def _places(rng, words, back):
    """Instructions with these words that lead on, those with go perhaps back, too, and a last one."""
    places = []
    for k, word in enumerate(words):
        if word[0] == "go":
            target = rng.randint(0 if back else k + 1, len(words))
            places.append(("go", tuple(sorted({k + 1, target}))))
        else:
            places.append(word + (k + 1,))
    return tuple(places) + (rng.choice(LASTS),)


def few_runs(rng):
    """A program of two or three roles that leads on, with births of later roles alone: it has few runs."""
    births = rng.choice(({"a": "b", "b": "c", "c": ""}, {"a": "bc", "b": "", "c": ""}, {"a": "bb", "b": ""},
                         {"a": "b", "b": ""}))
    roles = []
    for name, children in births.items():
        words = [(rng.choice(("copy", "copy", "start")), child) for child in children]
        words += [rng.choice(WORDS) for _ in range(rng.randint(0, 5 - len(children)))]
        rng.shuffle(words)
        if rng.random() < 0.5:
            words.insert(rng.randint(0, len(words)), ("close", "w"))
        roles.append((name, _places(rng, words, False), ()))
    return ((rng.choice(("open", "marked")), rng.choice(("open", "marked"))), tuple(roles))


def rounds(rng):
    """A program of up to five roles with rounds, and with roles that bear themselves and each other."""
    names = rng.sample(("a", "b", "c", "d", "kid"), rng.randint(1, 5))
    roles = []
    for name in names:
        words = [rng.choice(WORDS + (("copy", rng.choice(names)), ("copy", rng.choice(names)), ("start", rng.choice(names))))
                 for _ in range(rng.randint(0, 5))]
        if rng.random() < 0.6:
            words.insert(rng.randint(0, min(1, len(words))), ("go",))
        if rng.random() < 0.8:
            words.insert(rng.randint(0, len(words)), ("close", "w"))
        asides = {(rng.choice(("copy", "start")), rng.choice(names)) for _ in range(rng.choice((0, 0, 0, 1, 2, 3)))}
        roles.append((name, _places(rng, words, True), tuple(sorted(asides))))
    return ((rng.choice(("open", "marked")), rng.choice(("open", "marked"))), tuple(roles))


def many_few_runs(seed, many):
    """So many programs of few_runs, always the same ones for a seed."""
    rng = random.Random(seed)
    return [few_runs(rng) for _ in range(many)]


def many_rounds(seed, many):
    """So many programs of rounds, always the same ones for a seed."""
    rng = random.Random(seed)
    return [rounds(rng) for _ in range(many)]


# The child is born by the first; it tells the end only once all have closed w.
TOLD = (BOTH, (
    ("a", (("copy", "b", 1), ("close", "w", 2), ("wait", 3), ("read", 4), ("write", 5), ("end",)), ()),
    ("b", (("close", "w", 1), ("read", 2), ("copy", "c", 3), ("wait", 4), ("end",)), ()),
    ("c", (("close", "r", 1), ("read", 2), ("end",)), ())))
# The first writes while none holds r.
UNHEARD = (BOTH, (
    ("a", (("copy", "b", 1), ("close", "r", 2), ("write", 3), ("wait", 4), ("end",)), ()),
    ("b", (("go", (1, 2)), ("read", 2), ("end",)), ())))


def wide(kids=5, closing=True):
    """A first role that bears so many kids in turn, of four roles with eight places and three asides each."""
    names = ("b", "c", "d", "e")
    first = tuple(("copy", names[k % 4], k + 1) for k in range(kids)) + (("close", "w", kids + 1), ("wait", kids + 2), ("end",))
    asides = (("copy", "d"), ("start", "b"), ("start", "c"))
    roles = [("a", first, ())]
    for k, name in enumerate(names):
        after = names[(k + 1) % 4]
        places = (("go", (1, 7)), ("copy", after, 2), ("close" if closing else "mark", "w", 3), ("wait", 4), ("read", 5), ("write", 6),
                  ("start", after, 7), ("end",))
        roles.append((name, places, asides))
    return (BOTH, tuple(roles))
