"""The least tables: what becomes of a process, and of all that its births lead to.

A table is a dict of keys (name, ends); behind each stands the ascending tuple
of the codes of what can be of such a process and its line. It has the key that
it was asked for, and just those of all that can be born from there on.
"""

from keptends.fatecodes import codes_in
from keptends.follows import late_costs, mask_behind
from keptends.lookups import roles_by_name
from keptends.paths import born_along, graph_from, masks_along, start_of


def first_key(program):
    """Return the key of process 0."""
    begin, roles = program
    return (roles[0][0], begin)


def least_table(program, key, aspect):
    """Return the least table with the key, of one of the aspects that follows tells of."""
    roles = roles_by_name(program)
    late = late_costs(aspect, roles)
    graphs = {key: graph_from(roles[key[0]], start_of(key))}
    table = {key: ()}
    parents = {key: ()}
    ahead = [key]
    while len(ahead) > 0:
        each = ahead.pop()
        masks = masks_along(graphs[each], start_of(each), table)
        born = born_along(graphs[each], masks)
        new = [child for child in born if child not in table]
        for child in new:
            graphs[child] = graph_from(roles[child[0]], start_of(child))
            table[child] = ()
            parents[child] = ()
        for child in born:
            if each not in parents[child]:
                parents[child] = parents[child] + (each,)
        found = codes_in(mask_behind(aspect, roles[each[0]], masks, late))
        if found != table[each]:
            table[each] = found
            # What can become of a child decides what can become of those that bear it.
            again = [parent for parent in parents[each] if parent not in ahead]
            ahead.extend(again)
        # New children are looked at first, so that little is looked at in vain.
        ahead.extend(new)
    return table
