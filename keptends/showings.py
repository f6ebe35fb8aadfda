"""Which harms a run shows, and by how many steps first. The run is known to be one."""

from keptends.lookups import roles_by_name
from keptends.moments import READ_END, WRITE_END, first_tree, is_held, keeps_end, tree_with, ways_behind


def firsts_of(program, run):
    """Return a dict of the harms that the run shows: the length of the first beginning with each."""
    roles = roles_by_name(program)
    tree = first_tree(program)
    firsts = {}
    for harm in _harms_at(roles, tree):
        firsts[harm] = 0
    for k, step in enumerate(run):
        behind = tree_with(roles, tree, step)
        for harm in _harms_by(tree, step) + _harms_at(roles, behind):
            if harm not in firsts:
                firsts[harm] = k + 1
        tree = behind
    return firsts


def _harms_at(roles, tree):
    harms = ways_behind(roles, tree)
    return harms + ["kept"] if keeps_end(roles, tree) else harms


def _harms_by(tree, step):
    process, word, _ = step
    row = tree[process]
    if word == "read" and row[READ_END] == "none":
        return ["deaf"]
    if word == "write" and row[WRITE_END] == "none":
        return ["mute"]
    if word == "write" and not is_held(tree, READ_END):
        return ["unheard"]
    return []
