"""The fewest processes that come of one, for each of its fates.

A table of numbers has for each key (name, ends) an ascending tuple of pairs
(code of a fate, number): so many are at least such a process and its line, when
this has become of them. A state is a pair (position, code) of a path: where it
is, and what all of its children have come to together.
"""

from keptends.fatecodes import CODES, codes_in
from keptends.fatetables import least_table
from keptends.follows import fates_behind
from keptends.lookups import roles_by_name
from keptends.paths import graph_from, start_of


def least_numbers(program, key):
    """Return the table of the least numbers for the key, and for all that can be born from there on."""
    roles = roles_by_name(program)
    keys = list(least_table(program, key, "fates"))[::-1]
    table = {}
    more = True
    while more:
        more = False
        for each in keys:
            found = numbers_behind(roles[each[0]], sums_along(graph_from(roles, each), start_of(each), table))
            if found != table.get(each, ()):
                table[each] = found
                more = True
    return table


def sums_along(graph, start, table):
    """Return a dict of the states that paths come to: how many all their children need at least."""
    sums = {}
    for state, (total, _) in legs_along(graph, start, table).items():
        sums[state] = total
    return sums


def legs_along(graph, start, table):
    """Return a dict of the states that paths come to: the least sum of the numbers of the children, and its last leg.

    A leg is a triple (state before, move, code): the code is the fate of the
    child that the move bears. It is None where the path begins.
    """
    first = (start, 0)
    legs = {first: (0, None)}
    ahead = [first]
    while len(ahead) > 0:
        more = []
        for state in ahead:
            total = legs[state][0]
            for move in graph[state[0]]:
                for code, number in _choices(move, state[1], table):
                    behind = (move[3], state[1] | code)
                    if behind not in legs or total + number < legs[behind][0]:
                        legs[behind] = (total + number, (state, move, code))
                        more.append(behind)
        ahead = more
    return legs


def numbers_behind(role, sums):
    """Return the pairs of the code of a fate and the least number of processes behind these states."""
    numbers = {}
    for (position, code), total in sums.items():
        for found in codes_in(fates_behind(role, position, 1 << code)):
            if found not in numbers or total + 1 < numbers[found]:
                numbers[found] = total + 1
    return tuple([(code, numbers[code]) for code in CODES if code in numbers])


def _choices(move, code, table):
    word, _, child, _ = move
    if child is not None:
        return table.get(child, ())
    # Nothing passes a wait while a child has not ended.
    return () if word == "wait" and code != 0 else ((0, 0),)
