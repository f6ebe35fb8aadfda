"""Runs made: by one step more, and all of one length."""

from keptends.errors import InvalidStep
from keptends.kinds import is_number
from keptends.lookups import roles_by_name
from keptends.moments import first_tree, step_fault, steps_from, tree_of, tree_with
from keptends.programchecker import is_program
from keptends.runchecker import need_run
from keptends.usable import need


def after_step(program, run, step):
    """Return the run with the step behind it, or raise InvalidStep."""
    need_run(program, run)
    fault = step_fault(roles_by_name(program), tree_of(program, run), step)
    if fault is not None:
        raise InvalidStep(step, fault)
    return run + (step,)


def runs_of_length(program, length):
    """Yield all runs with so many steps, ascending."""
    need(is_program(program), "program")
    need(is_number(length), "length")
    roles = roles_by_name(program)
    # What is looked at next stands last, so that the runs come in order.
    ahead = [((), first_tree(program))]
    while len(ahead) > 0:
        run, tree = ahead.pop()
        if len(run) == length:
            yield run
        else:
            for step in reversed(list(steps_from(roles, tree))):
                ahead.append((run + (step,), tree_with(roles, tree, step)))
