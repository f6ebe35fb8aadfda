"""Letting go: whether all of a line can end, or hold an end no more."""

from keptends.fatecodes import MOMENT
from keptends.fatetables import least_table
from keptends.kinds import is_pair
from keptends.lookups import names_of
from keptends.programchecker import is_program
from keptends.usable import need


def can_end(program, name, ends):
    """Return whether all of the line can have ended behind early steps."""
    return 0 in _codes_of(program, name, ends, "fates")


def can_let_go(program, name, ends):
    """Return whether there can be a moment, behind early steps, at which none of the line holds w."""
    return len(_codes_of(program, name, ends, "w")) > 0


def can_be_unread(program, name, ends):
    """Return whether there can be a moment, behind early steps, at which none of the line holds r."""
    return len(_codes_of(program, name, ends, "r")) > 0


def can_end_late(program, name, ends):
    """Return whether all of the line can end, with each read possible once none of it holds w."""
    return MOMENT in _codes_of(program, name, ends, "w")


def _codes_of(program, name, ends, aspect):
    need(is_program(program), "program")
    need(name in names_of(program), "name")
    need(is_pair(ends), "ends")
    return least_table(program, (name, ends), aspect)[(name, ends)]
