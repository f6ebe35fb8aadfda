"""Runs that show a harm other than hanging: the elders of one process bear it, and it comes to where it shows it."""

from keptends.chainruns import chain_run
from keptends.fatecodes import LOUD
from keptends.fatetables import first_key
from keptends.lateruns import late_steps
from keptends.leastruns import run_to
from keptends.leastsums import least_numbers
from keptends.lookups import roles_by_name
from keptends.moments import WRITE_END, instruction_at, tree_of
from keptends.paths import GONE
from keptends.standings import harm_at, late_legs, positions_along

# What is at a stay shows its harm without a step.
STEPS = {"deaf": "read", "mute": "write"}


def unheard_run(program):
    """Return a run with a write of a process with w while none holds r, or None."""
    first = first_key(program)
    table = least_numbers(program, first, "r")
    if LOUD not in [code for code, _ in table.get(first, ())]:
        return None
    run = run_to(program, "r", LOUD, table)
    roles = roles_by_name(program)
    tree = tree_of(program, run)
    writers = [k for k, row in enumerate(tree) if row[WRITE_END] != "none" and instruction_at(roles, row)[0] == "write"]
    return run + ((writers[0], "write", -1),)


def standing_run(program, harm):
    """Return a run in which some process comes to a standing with this harm, and shows it, or None."""
    roles = roles_by_name(program)
    for key, position, _ in positions_along(program, "fates"):
        if position != GONE and harm_at(roles, (key[0],) + position) == harm:
            run, process = chain_run(program, "fates", key, position, True)
            return run + _last_steps(process, harm)
    legs = late_legs(program)
    for state in legs:
        if harm_at(roles, state[:3] + ("none",)) == harm:
            return _late_run(program, legs, state, harm)
    return None


def _late_run(program, legs, state, harm):
    path = []
    first = state
    while legs[first][0] is not None:
        before, move, descends = legs[first]
        path.append((move, descends))
        first = before
    key, position = legs[first][1]
    run, process = chain_run(program, "w", key, position, first[3])
    steps, last = late_steps(program, run, process, path[::-1])
    return run + steps + _last_steps(last, harm)


def _last_steps(process, harm):
    return ((process, STEPS[harm], -1),) if harm in STEPS else ()
