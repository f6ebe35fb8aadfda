"""Houses told a second time, plainly and slowly, to compare the package with."""

import re

from tests.fateoracle import crowd_of
from tests.harmoracle import harms_in, steps_of
from tests.oracle import WORD_NAME, WORD_NUMBER, World, is_form, program_fault, shown_first

STEP_WORDS = "(?:copy|start|mark|close|read|write|wait|end)"


def is_event(thing):
    """Whether any value is an event by form."""
    if type(thing) is not tuple or len(thing) != 2 or type(thing[0]) is not str:
        return False
    if thing[0] == "step":
        return is_form("is_step", thing[1])
    if thing[0] == "careful":
        return repr(thing[1]) in ("'on'", "'off'")
    return thing[0] == "mark" and is_form("is_name", thing[1])


class Plain:
    """A house that keeps its events, and tells all from them."""

    def __init__(self, program, careful="off"):
        self.program, self.first = program, careful
        self.events = []

    def run(self):
        """The steps of its run."""
        return tuple(part for word, part in self.events if word == "step")

    def world(self):
        """What there is behind its run."""
        return World(self.program, self.run())

    def careful(self):
        """Whether it is careful: on or off."""
        return ([self.first] + [part for word, part in self.events if word == "careful"])[-1]

    def shown(self):
        """A dict of the harms that its run shows."""
        return shown_first(self.program, self.run())

    def reason(self, event):
        """The reason for which it refuses an event, or None."""
        if not is_event(event):
            return "shape"
        if len(self.events) == 40:
            return "full"
        word, part = event
        if word == "careful":
            return "same" if part == self.careful() else None
        if word == "mark":
            return "twice" if event in self.events else None
        fault = self.world().fault(part)
        if fault is None and self.careful() == "on":
            behind = set(shown_first(self.program, self.run() + (part,)))
            return "harm" if behind - set(self.shown()) else None
        return fault

    def do(self, event):
        """Let the event happen unless it is refused; the reason, or None."""
        reason = self.reason(event)
        if reason is None:
            self.events.append(event)
        return reason

    def story(self):
        """Its story."""
        return (("house", self.program, self.first), *self.events)

    def born_since(self, name):
        """The processes that were born behind a mark."""
        at = self.events.index(("mark", name))
        before = [part for word, part in self.events[:at] if word == "step"]
        return tuple(range(len(World(self.program, before).processes), len(self.world().processes)))

    def tally(self):
        """The pairs of a word and how many steps have it."""
        counts = {}
        for _, word, _ in self.run():
            counts[word] = counts.get(word, 0) + 1
        return tuple(sorted(counts.items()))


def ways_to_come(program, run, most=5, limit=4000):
    """The ways in which runs hang that begin with this one, and whether no state was left out."""
    roles = {role[0]: role for role in program[1]}
    first = crowd_of(World(program, run).tree())
    seen, ahead, whole = {first}, [first], True
    ways = set()
    while ahead:
        crowd = ahead.pop()
        ways |= harms_in(roles, crowd) & {"own", "stays", "joins"}
        for _, _, behind in steps_of(roles, crowd):
            if len(behind) > max(most, len(first)) or behind not in seen and len(seen) >= limit:
                whole = False
            elif behind not in seen:
                seen.add(behind)
                ahead.append(behind)
    return tuple(sorted(ways)), whole


# Lines.


def event_fault(text):
    """The field of the first word of a line of an event that cannot stand, or is missing, or None."""
    words = text.split(" ")
    patterns = {"careful": ["on|off"], "mark": [WORD_NAME], "step": [WORD_NUMBER, STEP_WORDS + "|go|aside"]}.get(words[0])
    if patterns is None:
        return 0
    if words[0] == "step" and len(words) > 2 and words[2] in ("go", "aside"):
        patterns = patterns + [WORD_NUMBER]
    for k, pattern in enumerate(patterns):
        if k + 1 >= len(words) or not re.fullmatch(pattern, words[k + 1]):
            return k + 1
    return None if len(words) == len(patterns) + 1 else len(patterns) + 1


def story_fault(lines):
    """The line and field that read_story has to tell of a list of lines, or None."""
    words = (lines or [""])[0].split(" ")
    for k, pattern in enumerate(("house", "on|off", "[1-9][0-9]{0,59}")):
        if k >= len(words) or not re.fullmatch(pattern, words[k]):
            return (0, k)
    if len(words) > 3:
        return (0, 3)
    many = int(words[2])
    there = lines[1:1 + many]
    # The lines that are there alone, and then with ones behind them that can follow.
    fault = program_fault("\n".join(there)) if there else (0, 0)
    if fault is not None:
        return (1 + fault[0], fault[1])
    if len(there) < many:
        return (len(lines), 0)
    for k, line in enumerate(lines[1 + many:]):
        field = event_fault(line)
        if field is not None:
            return (1 + many + k, field)
    return None
