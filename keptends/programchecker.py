"""The checker of programs."""

from keptends.errors import InvalidPaper
from keptends.kinds import BIRTHS, is_begin, is_role
from keptends.lookups import targets_of


def is_program(thing):
    """Return whether any value is a program."""
    try:
        lets_program(thing)
    except InvalidPaper:
        return False
    return True


def lets_program(thing):
    """Return how many roles a program has, or raise InvalidPaper."""
    if not _has_shape(thing):
        raise InvalidPaper("shape", -1)
    begin, roles = thing
    if not is_begin(begin):
        raise InvalidPaper("begin", -1)
    _check_forms(roles)
    # The roles are known to be such by form only now, so their names are, too.
    names = {role[0]: True for role in roles}
    for k, role in enumerate(roles):
        _check_places(k, role, names)
        _check_asides(k, role, names)
    return len(roles)


def _has_shape(thing):
    if not isinstance(thing, tuple) or len(thing) != 2:
        return False
    begin, roles = thing
    if not isinstance(begin, tuple) or len(begin) != 2:
        return False
    return isinstance(roles, tuple) and len(roles) > 0


def _check_forms(roles):
    names = {}
    for k, role in enumerate(roles):
        if not is_role(role):
            raise InvalidPaper("role", k)
        if role[0] in names:
            raise InvalidPaper("twice", k)
        names[role[0]] = True


def _check_places(k, role, names):
    many = len(role[1])
    for p, instruction in enumerate(role[1]):
        if any([target >= many for target in targets_of(instruction)]):
            raise InvalidPaper("target", (k, p))
        if instruction[0] in BIRTHS and instruction[1] not in names:
            raise InvalidPaper("name", (k, p))


def _check_asides(k, role, names):
    for n, aside in enumerate(role[2]):
        if aside[1] not in names:
            raise InvalidPaper("aside", (k, n))
