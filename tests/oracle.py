"""The document told a second time, plainly and slowly, to compare the package with.

Forms are told by patterns over what repr shows, programs by a list of all
faults, runs by objects that change, texts by patterns for each word.
"""

import ast
import re

NUMBER = r"(?:0|[1-9][0-9]*)"
NAME = r"'[a-z]{1,8}'"
HELD = r"'(?:open|marked)'"
BIRTH = r"'(?:copy|start)'"


def _tuple(*parts):
    return r"\(" + ", ".join(parts) + ("," if len(parts) == 1 else "") + r"\)"


def _many(part):
    return r"\((?:" + part + ",|" + part + "(?:, " + part + r")+)\)"


TARGETS = _many(NUMBER)
INSTRUCTION = "(?:" + "|".join((
    _tuple("'go'", TARGETS),
    _tuple(BIRTH, NAME, NUMBER),
    _tuple("'(?:mark|close)'", "'[rw]'", NUMBER),
    _tuple("'(?:read|write|wait)'", NUMBER),
    _tuple("'(?:stay|end)'"))) + ")"
ASIDES = r"(?:\(\)|" + _many(_tuple(BIRTH, NAME)) + ")"
ROLE = _tuple(NAME, _many(INSTRUCTION), ASIDES)
PATTERNS = {
    "is_integer": "-?" + NUMBER,
    "is_number": NUMBER,
    "is_name": NAME,
    "is_pair": _tuple("'(?:none|open|marked)'", "'(?:none|open|marked)'"),
    "is_begin": _tuple(HELD, HELD),
    "is_asides": ASIDES,
    "is_instruction": INSTRUCTION,
    "is_role": ROLE,
    "is_step": "(?:" + _tuple(NUMBER, "'(?:go|aside)'", NUMBER) + "|"
               + _tuple(NUMBER, "'(?:copy|start|mark|close|read|write|wait|end)'", "-1") + ")",
}


def _sets_ascend(thing):
    """Whether all targets of go, and all asides, within a value ascend, each once."""
    if not isinstance(thing, tuple):
        return True
    if len(thing) == 2 and thing[0] == "go":
        return list(thing[1]) == sorted(set(thing[1]))
    if thing and all(isinstance(part, tuple) and len(part) == 2 and part[0] in ("copy", "start") for part in thing):
        return list(thing) == sorted(set(thing))
    return all(_sets_ascend(part) for part in thing)


def is_form(function, thing):
    """What the function of kinds with this name has to return."""
    shown = repr(thing)
    if not re.fullmatch(PATTERNS[function], shown):
        return False
    return function in ("is_integer", "is_name", "is_pair", "is_step") or _sets_ascend(ast.literal_eval(shown))


def leads(instruction):
    """The targets of an instruction."""
    if instruction[0] == "go":
        return set(instruction[1])
    return {part for part in instruction[1:] if isinstance(part, int)}


def paper_fault(thing):
    """The word and place that lets_program has to tell, or None."""
    if type(thing) is not tuple or len(thing) != 2 or type(thing[0]) is not tuple or len(thing[0]) != 2:
        return ("shape", -1)
    if type(thing[1]) is not tuple or not thing[1]:
        return ("shape", -1)
    if not is_form("is_begin", thing[0]):
        return ("begin", -1)
    names = []
    for k, role in enumerate(thing[1]):
        if not is_form("is_role", role):
            return ("role", k)
        if role[0] in names:
            return ("twice", k)
        names.append(role[0])
    faults = []
    for k, (_, places, asides) in enumerate(thing[1]):
        for p, instruction in enumerate(places):
            if leads(instruction) - set(range(len(places))):
                faults.append((k, 0, p, 0, "target"))
            if instruction[0] in ("copy", "start") and instruction[1] not in names:
                faults.append((k, 0, p, 1, "name"))
        for n, aside in enumerate(asides):
            if aside[1] not in names:
                faults.append((k, 1, n, 0, "aside"))
    if not faults:
        return None
    k, _, n, _, word = min(faults)
    return (word, (k, n))


class Process:
    """One process of a run."""

    def __init__(self, world, role, parent, holds):
        self.world, self.role, self.parent, self.holds = world, role, parent, holds
        self.number = len(world.processes)
        self.place = 0
        self.lives = True
        self.children = []
        world.processes.append(self)
        if parent is not None:
            parent.children.append(self)

    def line(self):
        """All that came of it."""
        for child in self.children:
            yield child
            yield from child.line()

    def at(self):
        """The instruction at which it is."""
        return self.role[1][self.place]

    def is_at(self, word):
        """Whether it lives and is at an instruction with this word."""
        return self.lives and self.at()[0] == word

    def has(self, end):
        """Whether it lives and holds the end."""
        return self.lives and self.holds[end] != "none"

    def bear(self, word, name):
        """Let a child be born."""
        if word == "copy":
            holds = dict(self.holds)
        else:
            holds = {end: "open" if held == "open" else "none" for end, held in self.holds.items()}
        Process(self.world, self.world.roles[name], self, holds)


class World:
    """A run as it goes on."""

    def __init__(self, program, run=()):
        begin, roles = program
        self.roles = {role[0]: role for role in roles}
        self.processes = []
        Process(self, roles[0], None, {"r": begin[0], "w": begin[1]})
        for step in run:
            self.do(step)

    def holders(self, end):
        """The numbers of those that hold the end."""
        return tuple(process.number for process in self.processes if process.has(end))

    def possible(self):
        """The set of all steps that are possible, by trying all that could be."""
        found = []
        for process in self.processes:
            for word in ("aside", "close", "copy", "end", "go", "mark", "read", "start", "wait", "write"):
                for number in range(12) if word in ("aside", "go") else (-1,):
                    step = (process.number, word, number)
                    if self.misfit(step) is None:
                        found.append(step)
        return tuple(sorted(found))

    def fault(self, step):
        """The first word of point 26 that applies to any value, or None."""
        return self.misfit(step) if is_form("is_step", step) else "step"

    def misfit(self, step):
        """The first word that applies to a step by form, or None."""
        number, word, which = step
        if number not in [process.number for process in self.processes if process.lives]:
            return "process"
        process = self.processes[number]
        if word not in ("aside", process.at()[0]):
            return "word"
        if word == "go" and which not in process.at()[1]:
            return "number"
        if word == "aside" and which not in range(len(process.role[2])):
            return "number"
        if word == "read" and process.has("r") and self.holders("w"):
            return "read"
        if word == "wait" and [other for other in process.line() if other.lives]:
            return "wait"
        return None

    def do(self, step):
        """Do a step that is possible."""
        number, word, which = step
        process = self.processes[number]
        if word == "aside":
            process.bear(*process.role[2][which])
            return
        at = process.at()
        if word == "end":
            process.lives = False
            process.holds = {"r": "none", "w": "none"}
            return
        if word in ("copy", "start"):
            process.bear(word, at[1])
        if word == "mark" and process.has(at[1]):
            process.holds[at[1]] = "marked"
        if word == "close":
            process.holds[at[1]] = "none"
        process.place = which if word == "go" else at[-1]

    def tree(self):
        """The rows of tree_after."""
        return tuple(
            (one.role[0], None if one.parent is None else one.parent.number, one.place,
             one.holds["r"], one.holds["w"], one.lives) for one in self.processes)

    def waiting(self):
        """The numbers of those that wait at a read."""
        if not self.holders("w"):
            return ()
        return tuple(one.number for one in self.processes if one.is_at("read") and one.has("r"))

    def ways(self):
        """The set of the ways in which the run hangs."""
        ways = set()
        for one in self.processes:
            if one.is_at("read") and one.has("r") and one.has("w"):
                ways.add("own")
            if one.is_at("stay") and one.has("w"):
                ways.add("stays")
            if one.is_at("wait") and one.has("w"):
                for other in one.line():
                    if other.is_at("stay") or other.is_at("read") and other.has("r"):
                        ways.add("joins")
        return tuple(sorted(ways)) if self.waiting() else ()


def shown_first(program, run):
    """A dict of the harms that a run shows, each with the length of its first beginning."""
    firsts = {}
    world = World(program)
    for k in range(len(run) + 1):
        now = set(world.ways())
        if [one for one in world.processes if one.is_at("stay") and (one.has("r") or one.has("w"))]:
            now.add("kept")
        for harm in now:
            firsts.setdefault(harm, k)
        if k < len(run):
            process, word, _ = run[k]
            if word == "read" and not world.processes[process].has("r"):
                firsts.setdefault("deaf", k + 1)
            if word == "write" and not world.processes[process].has("w"):
                firsts.setdefault("mute", k + 1)
            if word == "write" and world.processes[process].has("w") and not world.holders("r"):
                firsts.setdefault("unheard", k + 1)
            world.do(run[k])
    return firsts


def random_run(rng, program, length):
    """A run of so many steps, or fewer where no step is possible."""
    world = World(program)
    run = ()
    while len(run) < length:
        steps = world.possible()
        if not steps:
            break
        step = rng.choice(steps)
        world.do(step)
        run += (step,)
    return run


WORD_NUMBER = r"(?:0|[1-9][0-9]{0,59})"
WORD_NAME = r"[a-z]{1,8}"
LINES = {
    "begin": ("(?:open|marked)", "(?:open|marked)"),
    "role": (WORD_NAME,),
    "aside": ("(?:copy|start)", WORD_NAME),
    "go": (WORD_NUMBER + "(?:," + WORD_NUMBER + ")*",),
    "copy": (WORD_NAME, WORD_NUMBER), "start": (WORD_NAME, WORD_NUMBER),
    "mark": ("[rw]", WORD_NUMBER), "close": ("[rw]", WORD_NUMBER),
    "read": (WORD_NUMBER,), "write": (WORD_NUMBER,), "wait": (WORD_NUMBER,),
    "stay": (), "end": (),
}
INSTRUCTIONS = tuple(word for word in LINES if word not in ("begin", "role", "aside"))


def line_fault(text, firsts, before=None):
    """The field of the first word of a line that cannot stand or is missing, or None."""
    words = text.split(" ")
    if words[0] not in firsts:
        return 0
    patterns = LINES[words[0]]
    for k in range(1, len(patterns) + 2):
        word = words[k] if k < len(words) else None
        if k > len(patterns):
            return None if word is None else k
        if word is None or not re.fullmatch(patterns[k - 1], word):
            return k
        if words[0] == "go":
            targets = [int(number) for number in word.split(",")]
            if targets != sorted(set(targets)):
                return k
        if words[0] == "aside" and before is not None:
            if k == 1 and word < before[0] or k == 2 and words[1] == before[0] and word <= before[1]:
                return k
    return None


def program_fault(text):
    """The line and field that read_program has to tell of a text, or None."""
    lines = text.split("\n")
    kind, before = "", None
    for at, line in enumerate(lines):
        firsts = {"": ("begin",), "begin": ("role",), "role": INSTRUCTIONS, "aside": ("aside", "role")}.get(
            kind, INSTRUCTIONS + ("aside", "role"))
        field = line_fault(line, firsts, before)
        if field is not None:
            return (at, field)
        kind = line.split(" ")[0]
        before = tuple(line.split(" ")[1:]) if kind == "aside" else None
    return (len(lines), 0) if kind in ("begin", "role") else None
