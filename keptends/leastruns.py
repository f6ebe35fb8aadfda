"""Runs with the fewest processes that come to a fate of process 0."""

from keptends.fatecodes import codes_in
from keptends.fatetables import first_key
from keptends.follows import fates_behind
from keptends.leastsums import legs_along
from keptends.lookups import roles_by_name
from keptends.paths import graph_from, start_of


def run_to(program, code, table):
    """Return a run behind which process 0 and its line have come to this fate, by the table of least numbers."""
    roles = roles_by_name(program)
    first = (first_key(program), code)
    paths = {}
    run = []
    born = 1
    # The process, what is to become of it, and how many of its steps are done.
    # A child does all of its steps first: that is early, so it hinders nobody,
    # and a wait finds all ended that has to be.
    ahead = [(0, first, 0)]
    while len(ahead) > 0:
        process, goal, done = ahead.pop()
        if goal not in paths:
            paths[goal] = _path_to(roles, goal, table)
        if done < len(paths[goal]):
            word, number, child = paths[goal][done]
            run.append((process, word, number))
            ahead.append((process, goal, done + 1))
            if child is not None:
                ahead.append((born, child, 0))
                born = born + 1
    return tuple(run)


def _path_to(roles, goal, table):
    # The list of (word, number, what is to become of the child or None) of a process.
    key, code = goal
    legs = legs_along(graph_from(roles, key), start_of(key), table)
    leg = legs[_state_before(roles[key[0]], legs, code)][1]
    path = []
    while leg is not None:
        before, (word, number, child, _), fate = leg
        path.append((word, number, None if child is None else (child, fate)))
        leg = legs[before][1]
    return path[::-1]


def _state_before(role, legs, code):
    # The state with the least sum behind which this fate follows.
    best = None
    for state, (total, _) in legs.items():
        if best is None or total < legs[best][0]:
            if code in codes_in(fates_behind(role, state[0], 1 << state[1])):
                best = state
    return best
