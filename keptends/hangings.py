"""Runs that hang, and the harms that runs show."""

from keptends.kinds import HARMS
from keptends.lookups import roles_by_name
from keptends.moments import tree_of, ways_behind
from keptends.orders import ascending
from keptends.runchecker import need_run
from keptends.showings import firsts_of
from keptends.usable import need


def ways_at_end(program, run):
    """Return the set of the ways in which the run hangs."""
    need_run(program, run)
    return tuple(ways_behind(roles_by_name(program), tree_of(program, run)))


def harms_shown(program, run):
    """Return the set of the harms that the run shows."""
    need_run(program, run)
    return ascending(list(firsts_of(program, run)))


def first_shown(program, run, harm):
    """Return how many steps the shortest beginning has that shows the harm, or None."""
    need_run(program, run)
    need(harm in HARMS, "harm")
    return firsts_of(program, run).get(harm)
