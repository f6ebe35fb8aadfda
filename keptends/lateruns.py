"""Steps from moments at which no process holds w: each read is possible then.

A path is a list of pairs (move, descends): the moves of a process, and behind a
move that bears a child, and descends, those of this child.
"""

from keptends.follows import late_costs, nearest
from keptends.kinds import BIRTHS
from keptends.lookups import roles_by_name, targets_of
from keptends.moments import LIVES, line_of, tree_of


def late_steps(program, run, process, path):
    """Return the steps by which the process goes on behind the run, and the number of the one that goes on at last."""
    roles = roles_by_name(program)
    late = late_costs("w", roles)
    tree = tree_of(program, run)
    steps = []
    if _comes_to_wait(path):
        # What came of a process has a greater number, and is to end ahead of it.
        for one in line_of(tree, process)[::-1]:
            if tree[one][LIVES]:
                born = len(tree) + _births_in(steps)
                steps.extend(_ending(roles, late, (one, tree[one][0], tree[one][2]), born))
    for k, (move, descends) in enumerate(path):
        word, number, child, _ = move
        born = len(tree) + _births_in(steps)
        steps.append((process, word, number))
        if descends:
            process = born
        elif child is not None and _comes_to_wait(path[k + 1:]):
            steps.extend(_ending(roles, late, (born, child[0], 0), born + 1))
    return (tuple(steps), process)


def _comes_to_wait(path):
    # Whether the process itself does, ahead of what its child does.
    for move, descends in path:
        if move[0] == "wait":
            return True
        if descends:
            return False
    return False


def _births_in(steps):
    return len([word for _, word, _ in steps if word == "aside" or word in BIRTHS])


def _ending(roles, late, start, born):
    # The steps by which a process (number, name, place) ends, and all that it
    # bears from now on; born is how many processes there are already.
    steps = []
    ahead = [start]
    while len(ahead) > 0:
        process, name, place = ahead.pop()
        instruction = roles[name][1][place]
        word = instruction[0]
        target = nearest(name, targets_of(instruction), late)
        steps.append((process, word, target if word == "go" else -1))
        if word != "end":
            ahead.append((process, name, target))
        if word in BIRTHS:
            ahead.append((born, instruction[1], 0))
            born = born + 1
    return steps
