"""What there is behind a run."""

from keptends.kinds import ENDS, is_number
from keptends.lookups import roles_by_name
from keptends.moments import READ_END, WRITE_END, line_of, steps_from, tree_of, waiters
from keptends.runchecker import need_run
from keptends.usable import need


def tree_after(program, run):
    """Return a tuple of a row (role, parent, place, r, w, lives) for each process."""
    need_run(program, run)
    return tree_of(program, run)


def next_steps(program, run):
    """Return the set of the steps that are possible behind the run."""
    need_run(program, run)
    return tuple(steps_from(roles_by_name(program), tree_of(program, run)))


def is_at_rest(program, run):
    """Return whether no step but asides is possible behind the run."""
    return all([step[1] == "aside" for step in next_steps(program, run)])


def waiting_in(program, run):
    """Return the set of the processes that wait at a read."""
    need_run(program, run)
    return tuple(waiters(roles_by_name(program), tree_of(program, run)))


def holders_in(program, run, end):
    """Return the set of the processes that hold the end."""
    need_run(program, run)
    need(end in ENDS, "end")
    column = READ_END if end == "r" else WRITE_END
    return tuple([k for k, row in enumerate(tree_of(program, run)) if row[column] != "none"])


def came_of(program, run, process):
    """Return the set of all that came of the process, ended ones, too."""
    need_run(program, run)
    tree = tree_of(program, run)
    need(is_number(process) and process < len(tree), "process")
    return tuple(line_of(tree, process))
