"""Paths of one process, for which each child comes to one of the fates of a table.

A key is a pair (name, ends): a process of this role, born with these ends. A
position is a triple (place, r, w): where a process is, and what it holds; GONE
stands for one that has ended. A move is (word, number, child, behind): a step
without its process, the key of the child that it bears or None, and the
position behind it. Early moves are no read of a process that holds r; late
ones can be that, too. A graph is a dict of the positions that early moves
could come to: the early moves from each.
"""

from keptends.fatecodes import ENDED_ONLY, joined
from keptends.kinds import BIRTHS
from keptends.lookups import targets_of
from keptends.moments import end_behind, handed_on

GONE = ("ended", "none", "none")


def start_of(key):
    """Return the position at which a process with this key is born."""
    return (0,) + key[1]


def graph_from(role, start):
    """Return the graph of a process of the role from this position on, as if each wait could be passed."""
    graph = {}
    ahead = [start]
    while len(ahead) > 0:
        position = ahead.pop()
        if position not in graph:
            graph[position] = moves_at(role, position, False)
            ahead.extend([move[3] for move in graph[position]])
    return graph


def masks_along(graph, start, table, first=ENDED_ONLY):
    """Return a dict of the positions that paths come to: what their children have come to by then.

    The table has the codes for each key that a child can have, perhaps none
    yet. What the children of one path have come to together is one code; all
    of them at one position are a mask, first being that of those that were
    there at the start. A wait is passed with the code 0 alone.
    """
    masks = {start: first}
    ahead = [start]
    while len(ahead) > 0:
        position = ahead.pop()
        mask = masks[position]
        for word, _, child, behind in graph[position]:
            reached = mask
            if word == "wait":
                reached = mask & ENDED_ONLY
            elif child is not None:
                reached = joined(mask, table.get(child, ()))
            known = masks.get(behind, 0)
            if reached | known != known:
                masks[behind] = reached | known
                ahead.append(behind)
    return masks


def born_along(graph, masks):
    """Return the list of the keys of all children that are born at these positions, each once."""
    born = {}
    for position in masks:
        for _, _, child, _ in graph[position]:
            if child is not None:
                born[child] = True
    return list(born)


def moves_at(role, position, is_late):
    """Return the tuple of the early moves, or the late ones, of a process of the role at the position."""
    if position == GONE:
        return ()
    place, r, w = position
    _, places, asides = role
    moves = tuple([("aside", k, _child_of(aside, r, w), position) for k, aside in enumerate(asides)])
    instruction = places[place]
    word = instruction[0]
    if word == "end":
        return moves + ((word, -1, None, GONE),)
    if word == "read" and r != "none" and not is_late:
        return moves
    if word == "go":
        return moves + tuple([(word, target, None, (target, r, w)) for target in targets_of(instruction)])
    child = _child_of(instruction, r, w) if word in BIRTHS else None
    if word in ("mark", "close"):
        r = end_behind(r, word, instruction[1] == "r")
        w = end_behind(w, word, instruction[1] == "w")
    # A stay has no target, and so no move.
    return moves + tuple([(word, -1, child, (target, r, w)) for target in targets_of(instruction)])


def _child_of(birth, r, w):
    return (birth[1], (handed_on(birth[0], r), handed_on(birth[0], w)))
