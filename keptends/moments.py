"""What there is behind the steps of a run, one row for each process.

A tree is a tuple of rows (role, parent, place, r, w, lives). The functions here
take programs, trees and steps that are known to be such; roles is the dict of
the roles by their names. They build new trees and change none.
"""

from keptends.kinds import BIRTHS, is_step
from keptends.lookups import roles_by_name, targets_of

READ_END = 3
WRITE_END = 4
LIVES = 5


def first_tree(program):
    """Return the tree behind no step."""
    begin, roles = program
    return ((roles[0][0], None, 0, begin[0], begin[1], True),)


def tree_of(program, run):
    """Return the tree behind the run."""
    roles = roles_by_name(program)
    tree = first_tree(program)
    for step in run:
        tree = tree_with(roles, tree, step)
    return tree


def tree_with(roles, tree, step):
    """Return the tree behind the step, which is possible."""
    process = step[0]
    row = tree[process]
    changed = tree[:process] + (_row_behind(roles, row, step),) + tree[process + 1:]
    birth = _birth_by(roles, row, step)
    if birth is None:
        return changed
    word, name = birth
    child = (name, process, 0, handed_on(word, row[READ_END]), handed_on(word, row[WRITE_END]), True)
    return changed + (child,)


def step_fault(roles, tree, step):
    """Return the word that tells why any value is no possible step, or None."""
    if not is_step(step):
        return "step"
    process, word, number = step
    if process >= len(tree) or not tree[process][LIVES]:
        return "process"
    instruction = instruction_at(roles, tree[process])
    if word == "aside":
        return None if number < len(roles[tree[process][0]][2]) else "number"
    if word != instruction[0]:
        return "word"
    if word == "go" and number not in instruction[1]:
        return "number"
    return None if can_go_on(tree, process, word) else word


def can_go_on(tree, process, word):
    """Return whether the step with this word of its instruction is possible."""
    if word == "stay":
        return False
    if word == "read":
        return tree[process][READ_END] == "none" or not is_held(tree, WRITE_END)
    if word == "wait":
        return not any([tree[k][LIVES] for k in line_of(tree, process)])
    return True


def steps_from(roles, tree):
    """Return the list of all possible steps, ascending."""
    steps = []
    for process, row in enumerate(tree):
        if row[LIVES]:
            steps.extend(_steps_of(roles, tree, process))
    return steps


def instruction_at(roles, row):
    """Return the instruction at which the process of the row is."""
    return roles[row[0]][1][row[2]]


def is_held(tree, column):
    """Return whether some process holds the end in this column."""
    # What has ended holds nothing, so none but living ones are found.
    return any([row[column] != "none" for row in tree])


def line_of(tree, process):
    """Return the ascending list of all that came of the process."""
    line = {process: True}
    for k, row in enumerate(tree):
        # A child has a greater number than its parent, so one pass finds all.
        if row[1] in line:
            line[k] = True
    return [k for k in line if k != process]


def waiters(roles, tree):
    """Return the ascending list of the processes that wait at a read."""
    if not is_held(tree, WRITE_END):
        return []
    return [k for k, row in enumerate(tree) if _is_at(roles, row, "read") and row[READ_END] != "none"]


def ways_behind(roles, tree):
    """Return the ascending list of the ways in which a run hangs behind which this tree is."""
    if len(waiters(roles, tree)) == 0:
        return []
    stuck = [_is_stuck(roles, row) for row in tree]
    joins = any([_joins(roles, tree, k, stuck) for k in range(len(tree))])
    own = any([_is_at(roles, row, "read") and row[READ_END] != "none" and row[WRITE_END] != "none" for row in tree])
    stays = any([_is_at(roles, row, "stay") and row[WRITE_END] != "none" for row in tree])
    return [way for way, comes in (("joins", joins), ("own", own), ("stays", stays)) if comes]


def keeps_end(roles, tree):
    """Return whether a living process at a stay holds an end."""
    staying = [row for row in tree if _is_at(roles, row, "stay")]
    return is_held(staying, READ_END) or is_held(staying, WRITE_END)


def handed_on(word, held):
    """Return how a child holds an end that its parent holds so, born by this word."""
    if word == "copy":
        return held
    return "open" if held == "open" else "none"


def end_behind(held, word, is_meant):
    """Return how an end is held behind a mark or a close that means it or the other one."""
    if not is_meant or held == "none":
        return held
    return "marked" if word == "mark" else "none"


def _is_at(roles, row, word):
    return row[LIVES] and instruction_at(roles, row)[0] == word


def _is_stuck(roles, row):
    return _is_at(roles, row, "stay") or _is_at(roles, row, "read") and row[READ_END] != "none"


def _joins(roles, tree, process, stuck):
    if not _is_at(roles, tree[process], "wait") or tree[process][WRITE_END] == "none":
        return False
    return any([stuck[k] for k in line_of(tree, process)])


def _birth_by(roles, row, step):
    if step[1] == "aside":
        return roles[row[0]][2][step[2]]
    if step[1] in BIRTHS:
        return instruction_at(roles, row)[:2]
    return None


def _row_behind(roles, row, step):
    name, parent, place, r, w, _ = row
    _, word, number = step
    if word == "aside":
        return row
    if word == "end":
        return (name, parent, place, "none", "none", False)
    instruction = instruction_at(roles, row)
    target = number if word == "go" else instruction[-1]
    if word in ("mark", "close"):
        r = end_behind(r, word, instruction[1] == "r")
        w = end_behind(w, word, instruction[1] == "w")
    return (name, parent, target, r, w, True)


def _steps_of(roles, tree, process):
    role = roles[tree[process][0]]
    instruction = instruction_at(roles, tree[process])
    word = instruction[0]
    steps = [(process, "aside", k) for k in range(len(role[2]))]
    if word == "go":
        return steps + [(process, word, target) for target in targets_of(instruction)]
    if can_go_on(tree, process, word):
        return steps + [(process, word, -1)]
    return steps
