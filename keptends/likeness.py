"""Likeness of programs: whether the same can come by both."""

from keptends.hangs import ways_of
from keptends.harms import ends_told, harms_of
from keptends.kinds import HARMS
from keptends.programchecker import is_program
from keptends.usable import need


def have_same_harms(program, other):
    """Return whether the same harms can happen by both programs."""
    _need_both(program, other)
    return harms_of(program) == harms_of(other)


def have_same_ways(program, other):
    """Return whether both programs can hang in the same ways."""
    _need_both(program, other)
    return ways_of(program) == ways_of(other)


def have_same_reads(program, other):
    """Return whether the end can be told at the same reads of both programs."""
    _need_both(program, other)
    return ends_told(program) == ends_told(other)


def parting_harm(program, other):
    """Return the first harm that can happen by just one of the programs, or None."""
    _need_both(program, other)
    one = harms_of(program)
    another = harms_of(other)
    parting = [harm for harm in HARMS if (harm in one) != (harm in another)]
    return parting[0] if len(parting) > 0 else None


def _need_both(program, other):
    need(is_program(program), "program")
    need(is_program(other), "other")
