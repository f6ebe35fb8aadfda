"""The harms that can happen, for all numbers of processes."""

from keptends.fatecodes import LOUD
from keptends.fatetables import first_key, least_table
from keptends.hangs import hang_run, ways_of
from keptends.harmruns import standing_run, unheard_run
from keptends.kinds import HARMS, WAYS, is_words_of
from keptends.lookups import roles_by_name
from keptends.orders import ascending
from keptends.programchecker import is_program
from keptends.standings import early_standings, harm_at, late_standings
from keptends.usable import need


def harms_of(program):
    """Return the set of the harms that can happen."""
    need(is_program(program), "program")
    roles = roles_by_name(program)
    found = [harm_at(roles, standing) for standing in early_standings(program) + late_standings(program)]
    found.extend(ways_of(program))
    if LOUD in least_table(program, first_key(program), "r")[first_key(program)]:
        found.append("unheard")
    return ascending([harm for harm in HARMS if harm in found])


def is_harmless(program, *, harms=HARMS):
    """Return whether none of the harms can happen."""
    need(is_program(program), "program")
    need(is_words_of(harms, HARMS), "harms")
    found = harms_of(program)
    return not any([harm in found for harm in harms])


def ends_told(program):
    """Return the set of the pairs (name, place) of the reads at which the end can be told."""
    need(is_program(program), "program")
    roles = roles_by_name(program)
    # The end is told while no process holds w, and so behind late steps alone.
    standings = [standing for standing in late_standings(program) if standing[2] != "none"]
    return ascending([(name, place) for name, place, _, _ in standings if roles[name][1][place][0] == "read"])


def harm_run(program, harm):
    """Return a run that shows the harm, or None."""
    need(is_program(program), "program")
    need(harm in HARMS, "harm")
    if harm in WAYS:
        return hang_run(program, harm)
    return unheard_run(program) if harm == "unheard" else standing_run(program, harm)
