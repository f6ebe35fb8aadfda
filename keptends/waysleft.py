"""The ways of hanging that are left behind a run, for all numbers of processes that can still be born."""

from keptends.fatecodes import ENDED_ONLY, codes_in, joined, ways_in
from keptends.fatetables import least_table
from keptends.follows import mask_behind
from keptends.lookups import roles_by_name
from keptends.moments import LIVES, WRITE_END, is_held, tree_of
from keptends.paths import GONE, born_along, graph_from, masks_along


def ways_left_behind(program, run):
    """Return the set of the ways in which runs hang that begin with this one."""
    tree = tree_of(program, run)
    if not is_held(tree, WRITE_END):
        # Nothing waits at a read any more.
        return ()
    # All steps so far were early, and so are all further ones ahead of a moment that hangs.
    roles = roles_by_name(program)
    masks = {}
    for process in range(len(tree) - 1, -1, -1):
        # What came of a process has a greater number, so its masks are there.
        first = ENDED_ONLY
        for child in [k for k, row in enumerate(tree) if row[1] == process]:
            first = joined(first, codes_in(masks[child]))
        masks[process] = _mask_from(program, roles[tree[process][0]], tree[process], first)
    return ways_in(codes_in(masks[0]))


def _mask_from(program, role, row, first):
    # What can become of a process and its line, of whose children so far this is the mask.
    start = row[2:5] if row[LIVES] else GONE
    graph = graph_from(role, start)
    table = {}
    for key in born_along(graph, graph):
        if key not in table:
            found = least_table(program, key, "fates")
            for each in found:
                table[each] = found[each]
    return mask_behind("fates", role, masks_along(graph, start, table, first), {})
