"""Steps and runs written as texts."""

from keptends.kinds import is_step
from keptends.usable import need


def step_text(step):
    """Return the step, by form, as one line."""
    need(is_step(step), "step")
    return _step_line(step)


def run_text(run):
    """Return the tuple of steps by form as lines, or - if there are none."""
    need(_is_writable(run), "run")
    if len(run) == 0:
        return "-"
    return "\n".join([_step_line(step) for step in run])


def _is_writable(thing):
    return isinstance(thing, tuple) and all([is_step(step) for step in thing])


def _step_line(step):
    process, word, number = step
    # By form just "go" and "aside" have a number that is not -1.
    return f"{process} {word}" if number == -1 else f"{process} {word} {number}"
