"""Pictures of what there is behind a run."""

from keptends.lookups import roles_by_name
from keptends.moments import LIVES, instruction_at, tree_of, waiters
from keptends.runchecker import need_run

SIGNS = {"none": "-", "open": "o", "marked": "m"}


def run_picture(program, run):
    """Return a list with a string for each process, in order."""
    need_run(program, run)
    roles = roles_by_name(program)
    tree = tree_of(program, run)
    waiting = waiters(roles, tree)
    return [_line_of(roles, process, row, process in waiting) for process, row in enumerate(tree)]


def _line_of(roles, process, row, waits):
    name, parent, place, r, w, _ = row
    before = "-" if parent is None else str(parent)
    state = instruction_at(roles, row)[0] if row[LIVES] else "ended"
    line = f"{process:>2} {name:<8} {before:>2} {place:>2} {SIGNS[r]}{SIGNS[w]} {state}"
    return line + " waits" if waits else line
