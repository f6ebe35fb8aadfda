"""The fewest processes that come of one, for each of the codes that it can come to.

A table of numbers has for each key (name, ends) an ascending tuple of pairs
(code, number): of "fates" so many are at least such a process and its line, when
this has become of them. Of the aspect "w" the steps are counted, too, by which
it can end later on. A state is a pair (position, code) of a path: where it is,
and what all of its children have come to together.
"""

from keptends.fatecodes import CODES, codes_in
from keptends.fatetables import least_table
from keptends.follows import late_costs, mask_at
from keptends.lookups import roles_by_name
from keptends.paths import graph_from, start_of


def least_numbers(program, key, aspect):
    """Return the table of the least numbers for the key, and for all that can be born from there on."""
    roles = roles_by_name(program)
    late = late_costs(aspect, roles)
    keys = list(least_table(program, key, aspect))[::-1]
    graphs = {each: graph_from(roles[each[0]], start_of(each)) for each in keys}
    table = {}
    more = True
    while more:
        more = False
        for each in keys:
            legs = legs_along(graphs[each], start_of(each), table)
            found = numbers_behind(aspect, roles[each[0]], legs, late)
            if found != table.get(each, ()):
                table[each] = found
                more = True
    return table


def legs_of(roles, key, table):
    """Return the legs of a process with this key, from its birth on."""
    return legs_along(graph_from(roles[key[0]], start_of(key)), start_of(key), table)


def legs_along(graph, start, table):
    """Return a dict of the states that paths come to: the least sum of the numbers of the children, and its last leg.

    A leg is a triple (state before, move, code): the code is that of the child
    that the move bears. It is None where the path begins.
    """
    first = (start, 0)
    legs = {first: (0, None)}
    ahead = [first]
    while len(ahead) > 0:
        more = []
        # A list of their own, since what stands in more comes to stand in ahead.
        for state in list(ahead):
            total = legs[state][0]
            for move in graph[state[0]]:
                for code, number in _choices(move, state[1], table):
                    behind = (move[3], state[1] | code)
                    if behind not in legs or total + number < legs[behind][0]:
                        legs[behind] = (total + number, (state, move, code))
                        more.append(behind)
        ahead = list(more)
    return legs


def numbers_behind(aspect, role, legs, late):
    """Return the pairs of a code and the least number behind the states that these legs lead to."""
    numbers = {}
    for state, (total, _) in legs.items():
        number = 1 + total + cost_at(role, state, late)
        for code in codes_in(mask_at(aspect, role, state[0], 1 << state[1], late)):
            if code not in numbers or number < numbers[code]:
                numbers[code] = number
    return tuple([(code, numbers[code]) for code in CODES if code in numbers])


def cost_at(role, state, late):
    """Return how many late steps a process has to do from the state on to end; 0 if it cannot, or need not."""
    return late.get((role[0], state[0][0]), 0)


def _choices(move, code, table):
    word, _, child, _ = move
    if child is not None:
        return table.get(child, ())
    # Nothing passes a wait while a child has not ended.
    return () if word == "wait" and code != 0 else ((0, 0),)
