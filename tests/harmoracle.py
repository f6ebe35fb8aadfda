"""Harms told a second time, plainly and slowly, to compare the package with.

In two ways: by going through every state that a run can come to (points 4 to
6), and, for all numbers of processes, by what one process can come to early,
and late below elders that let go (points 44 and 46). States are crowds, as
fateoracle has them; standings are triples (place, ends, lives).
"""

from tests.fateoracle import ENDED, born_with, first_of, keys_born, least_numbers, line, moves

HARMS = ("own", "stays", "joins", "deaf", "mute", "unheard", "kept")


def has(row, end):
    """Whether the process of a row of a crowd holds the end."""
    return row[4] and row[3]["rw".index(end)] != "none"


def seen_in_runs(program, most=4, limit=20000):
    """The harms that runs show, the reads with r from which one goes on, and whether no state was left out.

    Births beyond so many processes are left out, and states beyond the limit.
    """
    roles = {role[0]: role for role in program[1]}
    first = ((program[1][0][0], None, 0, program[0], True),)
    seen, ahead, whole = {first}, [first], True
    harms, reads = set(), set()
    while ahead:
        crowd = ahead.pop()
        harms |= harms_in(roles, crowd)
        for harm, read, behind in steps_of(roles, crowd):
            if harm is not None:
                harms.add(harm)
            if read is not None:
                reads.add(read)
            if len(behind) > most or behind not in seen and len(seen) >= limit:
                whole = False
            elif behind not in seen:
                seen.add(behind)
                ahead.append(behind)
    return tuple(sorted(harms)), tuple(sorted(reads)), whole


def harms_in(roles, crowd):
    """The harms that a crowd shows by itself: it hangs, or one that stays keeps an end."""
    words = [roles[row[0]][1][row[2]][0] if row[4] else "" for row in crowd]
    found = {"kept" for row, word in zip(crowd, words) if word == "stay" and (has(row, "r") or has(row, "w"))}
    if not any(has(row, "w") for row in crowd):
        return found
    waiting = [k for k, row in enumerate(crowd) if words[k] == "read" and has(row, "r")]
    if not waiting:
        return found
    if any(has(crowd[k], "w") for k in waiting):
        found.add("own")
    for k, row in enumerate(crowd):
        if words[k] == "stay" and has(row, "w"):
            found.add("stays")
        if words[k] == "wait" and has(row, "w") and any(
                words[other] == "stay" or other in waiting for other in line(crowd, k)):
            found.add("joins")
    return found


def steps_of(roles, crowd):
    """All steps that are possible: the harm of the step, the read at which it tells the end, the crowd behind it."""
    writers = any(has(row, "w") for row in crowd)
    readers = any(has(row, "r") for row in crowd)
    for k, row in enumerate(crowd):
        name, parent, place, ends, lives = row
        for word, child, (target, held, goes_on) in moves(roles[name], (place, ends, lives), True):
            harm = read = None
            if word == "wait" and any(crowd[other][4] for other in line(crowd, k)):
                continue
            at = roles[name][1][place][0] if word != "aside" else ""
            if at == "read" and has(row, "r"):
                if writers:
                    continue
                read = (name, place)
            elif at == "read":
                harm = "deaf"
            if at == "write":
                harm = "mute" if not has(row, "w") else None if readers else "unheard"
            rows = crowd[:k] + ((name, parent, target, held, goes_on),) + crowd[k + 1:]
            yield harm, read, rows + (((child[0], k, 0, child[1], True),) if child is not None else ())


# For all numbers of processes. What a child comes to is a word.


def comings(role, start, choices, every_read=False):
    """The pairs (standing, set of the words of its children) that one process comes to.

    choices tells for the key of a child the words of what it can come to; a
    wait is passed behind "ended" alone.
    """
    seen = {(start, frozenset())}
    ahead = list(seen)
    while ahead:
        standing, words = ahead.pop()
        for word, child, behind in moves(role, standing, every_read):
            if word == "wait" and words - {"ended"}:
                continue
            for choice in choices(child) if child is not None else ("ended",):
                state = (behind, words | {choice})
                if state not in seen:
                    seen.add(state)
                    ahead.append(state)
    return seen


def born(key):
    """The standing at which a process of the key is born."""
    return (0, key[1], True)


def roles_that_end_late(roles):
    """The names of the roles that can end where each read is possible."""
    free = set()
    while True:
        more = {name for name, role in roles.items() if ends_beside(role, (0, ("none", "none"), True), free)}
        if more == free:
            return free
        free = more


def ends_beside(role, start, free):
    """Whether a process comes from here to its end late, with no child from now on but ones of these roles."""
    return any(not standing[2] for standing, _ in comings(
        role, start, lambda child: ("ended",) if child[0] in free else (), True))


def lettings(program):
    """For each key that could be born the words of its line: "ended", "late" (lets go, and can end then), "go" (lets go)."""
    roles = {role[0]: role for role in program[1]}
    free = roles_that_end_late(roles)
    table = {key: set() for key in keys_born(program, first_of(program))}
    while True:
        later = {}
        for key in table:
            found = set()
            for standing, words in comings(roles[key[0]], born(key), lambda child: table[child]):
                if standing[1][1] != "none":
                    continue
                found.add("go")
                if not standing[2] and words <= {"ended"}:
                    found |= {"ended", "late"}
                if words <= {"ended", "late"} and (not standing[2] or ends_beside(roles[key[0]], standing, free)):
                    found.add("late")
            later[key] = found
        if later == table:
            return table, free
        table = later


def told_for_all(program):
    """The four harms that are no ways of hanging, and the reads at which the end is told."""
    roles = {role[0]: role for role in program[1]}
    found, reads = set(), set()
    # Early, nothing is asked of the elders; of the children just what a wait asks.
    fates = least_numbers(program, first_of(program))
    for key in fates:
        for standing, _ in comings(roles[key[0]], born(key), lambda child: {
                "ended" if fate == ENDED else "lives" for fate in fates[child]}):
            found |= shown_at(roles[key[0]], standing)
    table, free = lettings(program)
    for key in below(program, table):
        for standing, words in comings(roles[key[0]], born(key), lambda child: table[child]):
            if standing[2] and standing[1][1] == "none":
                behind, told = late_from(roles, free, key[0], standing, words)
                found |= behind
                reads |= told
    if "loud" in unheard(program):
        found.add("unheard")
    return tuple(sorted(found)), tuple(sorted(reads))


def shown_at(role, standing):
    """The harm that a process shows where it is, or by its step there."""
    place, (r, w), lives = standing
    word = role[1][place][0] if lives else ""
    if word == "read" and r == "none":
        return {"deaf"}
    if word == "write" and w == "none":
        return {"mute"}
    return {"kept"} if word == "stay" and (r, w) != ("none", "none") else set()


def below(program, table):
    """The keys that are born below elders that all let go, without a wait behind the birth."""
    roles = {role[0]: role for role in program[1]}
    found = [first_of(program)]
    for key in found:
        role = roles[key[0]]
        before = comings(role, born(key), lambda child: table[child])
        for standing in {standing for standing, _ in before}:
            for word, child, behind in moves(role, standing):
                if child is not None and child not in found:
                    # The child that is born here hinders each wait from now on.
                    later = waitless(role, behind, table)
                    if any(other[1][1] == "none" for other in later):
                        found.append(child)
    return found


def waitless(role, start, table):
    """The standings that one process comes to without a wait, with children that let go."""
    seen = [start]
    for standing in seen:
        for word, child, behind in moves(role, standing):
            if word != "wait" and behind not in seen and (child is None or table[child]):
                seen.append(behind)
    return seen


def late_from(roles, free, name, standing, words):
    """The harms and the reads with r that a process, and all that it bears from now on, come to late."""
    found, reads = set(), set()
    first = (name, standing, not words <= {"ended", "late"})
    seen, ahead = {first}, [first]
    while ahead:
        name, standing, bound = ahead.pop()
        role = roles[name]
        found |= shown_at(role, standing)
        if standing[2] and role[1][standing[0]][0] == "read" and standing[1][0] != "none":
            reads.add((name, standing[0]))
        for word, child, behind in moves(role, standing, True):
            if word == "wait" and bound:
                continue
            states = [(name, behind, bound or child is not None and child[0] not in free)]
            if child is not None:
                states.append((child[0], born(child), False))
            for state in states:
                if state not in seen:
                    seen.add(state)
                    ahead.append(state)
    return found, reads


def unheard(program):
    """The words of what the line of process 0 comes to where none of it holds r: "quiet", or "loud" with a writer."""
    roles = {role[0]: role for role in program[1]}
    table = {key: set() for key in keys_born(program, first_of(program))}
    while True:
        later = {}
        for key in table:
            found = set()
            for (place, (r, w), lives), words in comings(roles[key[0]], born(key), lambda child: table[child]):
                if r == "none":
                    writes = lives and roles[key[0]][1][place][0] == "write" and w != "none"
                    found.add("loud" if writes or "loud" in words else "quiet")
                    if not lives and words <= {"ended"}:
                        found.add("ended")
            later[key] = found
        if later == table:
            return table[first_of(program)]
        table = later
