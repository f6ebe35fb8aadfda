"""The checker of runs."""

from keptends.errors import InvalidPaper
from keptends.lookups import roles_by_name
from keptends.moments import first_tree, step_fault, tree_with
from keptends.programchecker import is_program
from keptends.usable import need


def is_run(program, thing):
    """Return whether any value is a run of the program."""
    try:
        lets_run(program, thing)
    except InvalidPaper:
        return False
    return True


def need_run(program, run):
    """Raise NotUsable unless these are a program and a run of it."""
    # is_run asks for the program itself, ahead of all else.
    need(is_run(program, run), "run")


def lets_run(program, thing):
    """Return how many processes were born in a run, or raise InvalidPaper."""
    need(is_program(program), "program")
    if not isinstance(thing, tuple):
        raise InvalidPaper("shape", -1)
    roles = roles_by_name(program)
    tree = first_tree(program)
    for k, step in enumerate(thing):
        fault = step_fault(roles, tree, step)
        if fault is not None:
            raise InvalidPaper(fault, k)
        tree = tree_with(roles, tree, step)
    return len(tree)
