"""Events and stories of houses written as lines."""

from keptends.houseevents import is_event
from keptends.kinds import SWITCHES
from keptends.programtexts import is_writable, program_text
from keptends.runtexts import step_text
from keptends.usable import need


def event_line(event):
    """Return the event, by form, as one line."""
    need(is_event(event), "event")
    word, part = event
    written = step_text(part) if word == "step" else part
    return f"{word} {written}"


def story_lines(story):
    """Return the list of the lines of a story, whose program may be none."""
    need(is_told(story), "story")
    _, program, careful = story[0]
    lines = program_text(program).split("\n")
    return [f"house {careful} {len(lines)}"] + lines + [event_line(event) for event in story[1:]]


def is_told(thing):
    """Return whether any value is a story by form: its program can be written, but may be none."""
    if not isinstance(thing, tuple) or len(thing) == 0 or not all([is_event(event) for event in thing[1:]]):
        return False
    first = thing[0]
    if not isinstance(first, tuple) or len(first) != 3 or first[0] != "house":
        return False
    return is_writable(first[1]) and first[2] in SWITCHES
