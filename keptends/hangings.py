"""Runs that hang, and the harms that runs show."""

from keptends.kinds import HARMS
from keptends.lookups import roles_by_name
from keptends.moments import READ_END, WRITE_END, first_tree, is_held, keeps_end, tree_of, tree_with, ways_behind
from keptends.orders import ascending
from keptends.runchecker import need_run
from keptends.usable import need


def ways_at_end(program, run):
    """Return the set of the ways in which the run hangs."""
    need_run(program, run)
    return tuple(ways_behind(roles_by_name(program), tree_of(program, run)))


def harms_shown(program, run):
    """Return the set of the harms that the run shows."""
    need_run(program, run)
    return ascending(list(_firsts(program, run)))


def first_shown(program, run, harm):
    """Return how many steps the shortest beginning has that shows the harm, or None."""
    need_run(program, run)
    need(harm in HARMS, "harm")
    return _firsts(program, run).get(harm)


def _firsts(program, run):
    # A dict of the harms that the run shows: the length of the first beginning with each.
    roles = roles_by_name(program)
    tree = first_tree(program)
    firsts = {}
    for harm in _harms_at(roles, tree):
        firsts[harm] = 0
    for k, step in enumerate(run):
        behind = tree_with(roles, tree, step)
        for harm in _harms_by(tree, step) + _harms_at(roles, behind):
            if harm not in firsts:
                firsts[harm] = k + 1
        tree = behind
    return firsts


def _harms_at(roles, tree):
    harms = ways_behind(roles, tree)
    return harms + ["kept"] if keeps_end(roles, tree) else harms


def _harms_by(tree, step):
    process, word, _ = step
    row = tree[process]
    if word == "read" and row[READ_END] == "none":
        return ["deaf"]
    if word == "write" and row[WRITE_END] == "none":
        return ["mute"]
    if word == "write" and not is_held(tree, READ_END):
        return ["unheard"]
    return []
