"""Where single processes can come to in some run, for all numbers of processes.

A standing is (name, place, r, w): a living process of the role is at the place
and holds so. Early ones are come to by runs that are early. Late ones are come
to from moments at which no process holds w, since each read is possible then: a
late state is (name, place, r, bound), bound telling whether some child there is
cannot end, so that the process passes no wait.

What is asked of the elders of a process is told by the aspect: "fates" asks
nothing of them; by "w" they, too, hold no w at that moment, and all else that
came of them. A link is (key of the parent, position, move), the birth of a key.
"""

from keptends.fatecodes import BOUND, codes_in
from keptends.fatetables import first_key, least_table
from keptends.follows import late_costs
from keptends.lookups import roles_by_name
from keptends.paths import GONE, graph_from, masks_along, moves_at, start_of


def early_standings(program):
    """Return the list of all early standings, each once."""
    found = {}
    for key, position, _ in positions_along(program, "fates"):
        if position != GONE:
            found[(key[0],) + position] = True
    return list(found)


def late_standings(program):
    """Return the list of all late standings, each once."""
    found = {}
    for name, place, r, _ in late_legs(program):
        found[(name, place, r, "none")] = True
    return list(found)


def harm_at(roles, standing):
    """Return the harm that a process shows by staying at the standing, or by its step there, or None."""
    name, place, r, w = standing
    word = roles[name][1][place][0]
    if word == "read" and r == "none":
        return "deaf"
    if word == "write" and w == "none":
        return "mute"
    if word == "stay" and (r != "none" or w != "none"):
        return "kept"
    return None


def positions_along(program, aspect):
    """Return a list of (key, position, mask): where processes come to, and what their children have come to by then."""
    roles = roles_by_name(program)
    table = least_table(program, first_key(program), aspect)
    found = []
    for key in links_along(program, aspect):
        masks = masks_along(graph_from(roles[key[0]], start_of(key)), start_of(key), table)
        found.extend([(key, position, mask) for position, mask in masks.items()])
    return found


def links_along(program, aspect):
    """Return a dict of the keys of all processes that are born: the link of each, None for process 0."""
    roles = roles_by_name(program)
    table = least_table(program, first_key(program), aspect)
    found = [first_key(program)]
    links = {found[0]: None}
    done = 0
    while done < len(found):
        key = found[done]
        graph = graph_from(roles[key[0]], start_of(key))
        masks = masks_along(graph, start_of(key), table)
        lets = letting_go(graph, table) if aspect == "w" else graph
        for position, move in [(position, move) for position in masks for move in graph[position]]:
            child = move[2]
            if child is not None and child not in links and move[3] in lets:
                links[child] = (key, position, move)
                found.append(child)
        done = done + 1
    return links


def without_waits(graph):
    """Return the graph without the moves that pass a wait."""
    return {position: tuple([move for move in graph[position] if move[0] != "wait"]) for position in graph}


def letting_go(graph, table):
    """Return a dict of the positions from which a process comes to hold no w, and all that it bears, without a wait."""
    freed = without_waits(graph)
    lets = {}
    more = True
    while more:
        more = False
        for position in freed:
            if position not in lets and (position[2] == "none" or _leads_to(freed[position], lets, table)):
                lets[position] = True
                more = True
    return lets


def late_legs(program):
    """Return a dict of all late states: the leg (state before, move, whether it goes on with the child born).

    The first legs are (None, (key, position), False): the process comes early to
    the position, and holds no w there.
    """
    roles = roles_by_name(program)
    late = late_costs("w", roles)
    legs = {}
    found = []
    for key, position, mask in positions_along(program, "w"):
        state = (key[0], position[0], position[1], is_bound(mask))
        if position[2] == "none" and position != GONE and state not in legs:
            legs[state] = (None, (key, position), False)
            found.append(state)
    done = 0
    while done < len(found):
        state = found[done]
        for behind, leg in _legs_from(roles, late, state):
            if behind not in legs:
                legs[behind] = leg
                found.append(behind)
        done = done + 1
    return legs


def is_bound(mask):
    """Return whether on each path some child can come to no end."""
    return all([code == BOUND for code in codes_in(mask)])


def _leads_to(moves, lets, table):
    return any([behind in lets and (child is None or len(table.get(child, ())) > 0) for _, _, child, behind in moves])


def _legs_from(roles, late, state):
    name, place, r, bound = state
    legs = []
    for move in moves_at(roles[name], (place, r, "none"), True):
        word, _, child, behind = move
        if behind == GONE or word == "wait" and bound:
            continue
        binds = child is not None and (child[0], 0) not in late
        legs.append(((name, behind[0], behind[1], bound or binds), (state, move, False)))
        if child is not None:
            legs.append(((child[0], 0, child[1][0], False), (state, move, True)))
    return legs
