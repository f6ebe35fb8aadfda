"""What is such by form: names, pairs of ends, asides, instructions, roles, steps.

Any value may be asked about. Its kind is looked at before it is compared or
measured, so that True is never taken for 1, nor a list for a tuple.
"""

ENDS = ("r", "w")
HOLDS = ("none", "open", "marked")
WAYS = ("own", "stays", "joins")
HARMS = ("own", "stays", "joins", "deaf", "mute", "unheard", "kept")
BIRTHS = ("copy", "start")
SWITCHES = ("on", "off")
WORDS = ("go", "copy", "start", "mark", "close", "read", "write", "wait", "stay", "end")
LETTERS = "abcdefghijklmnopqrstuvwxyz"


def is_integer(thing):
    """Return whether it is an int that is not a bool."""
    return isinstance(thing, int) and not isinstance(thing, bool)


def is_number(thing):
    """Return whether it is an integer that is at least 0."""
    return is_integer(thing) and thing >= 0


def is_name(thing):
    """Return whether it has one to eight lowercase letters."""
    if not isinstance(thing, str) or len(thing) < 1 or len(thing) > 8:
        return False
    return all([letter in LETTERS for letter in thing])


def is_pair(thing):
    """Return whether it is a pair of ends: how r and w are held."""
    return _is_tuple_of(thing, 2) and thing[0] in HOLDS and thing[1] in HOLDS


def is_begin(thing):
    """Return whether it is a begin of a program: a pair of ends, both held."""
    return is_pair(thing) and thing[0] != "none" and thing[1] != "none"


def is_asides(thing):
    """Return whether it is a set of pairs of a word of birth and a name."""
    if not isinstance(thing, tuple):
        return False
    return all([_is_aside(aside) for aside in thing]) and ascends(thing)


def is_instruction(thing):
    """Return whether it is an instruction by form, with any numbers and names."""
    if not isinstance(thing, tuple) or len(thing) == 0:
        return False
    word = thing[0]
    if word == "go":
        return len(thing) == 2 and _is_targets(thing[1])
    if word in BIRTHS:
        return len(thing) == 3 and is_name(thing[1]) and is_number(thing[2])
    if word in ("mark", "close"):
        return len(thing) == 3 and thing[1] in ENDS and is_number(thing[2])
    if word in ("read", "write", "wait"):
        return len(thing) == 2 and is_number(thing[1])
    return word in ("stay", "end") and len(thing) == 1


def is_role(thing):
    """Return whether it is a role by form, with any numbers and names."""
    if not _is_tuple_of(thing, 3):
        return False
    name, places, asides = thing
    if not is_name(name) or not isinstance(places, tuple) or len(places) == 0:
        return False
    return all([is_instruction(instruction) for instruction in places]) and is_asides(asides)


def is_step(thing):
    """Return whether it is a step by form, of any process."""
    if not _is_tuple_of(thing, 3):
        return False
    process, word, number = thing
    if not is_number(process) or not is_integer(number):
        return False
    if word in ("go", "aside"):
        return number >= 0
    return word in WORDS and word != "stay" and number == -1


def is_words_of(thing, words):
    """Return whether it is a tuple of different ones of these words, in any order."""
    if not isinstance(thing, tuple) or not all([word in words for word in thing]):
        return False
    return all([thing.index(word) == k for k, word in enumerate(thing)])


def ascends(things):
    """Return whether each of the things is greater than the one before."""
    return all([one < other for one, other in zip(things, things[1:])])


def _is_tuple_of(thing, many):
    return isinstance(thing, tuple) and len(thing) == many


def _is_aside(thing):
    return _is_tuple_of(thing, 2) and thing[0] in BIRTHS and is_name(thing[1])


def _is_targets(thing):
    if not isinstance(thing, tuple) or len(thing) == 0:
        return False
    return all([is_number(target) for target in thing]) and ascends(thing)
