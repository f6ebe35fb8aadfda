"""The checker of papers of harms."""

from keptends.errors import InvalidPaper
from keptends.hangings import first_shown
from keptends.kinds import HARMS
from keptends.programchecker import is_program
from keptends.runchecker import lets_run
from keptends.usable import need


def lets_harm(program, harm, thing):
    """Return how many steps the shortest beginning has that shows the harm, or raise InvalidPaper."""
    need(is_program(program), "program")
    need(harm in HARMS, "harm")
    lets_run(program, thing)
    first = first_shown(program, thing, harm)
    if first is None:
        raise InvalidPaper("harm", -1)
    return first
