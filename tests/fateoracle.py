"""What becomes of processes, told a second time, plainly and slowly, to compare the package with.

Fates are told in two ways: from paths of one process, by points 34 to 36 and
39, and from weavings of all steps of a few processes, by points 4, 5 and 7.
What children have come to together is a pair: whether all have ended, and the
five bools of a moment.
"""

PAIRS = [(r, w) for r in ("none", "open", "marked") for w in ("none", "open", "marked")]
ENDED = ("ended",)
NOTHING = (False,) * 5


def all_fate_forms():
    """The set of all fates by form."""
    moments = []
    for k in range(32):
        waits, stuck, own, stays, joins = [bool(k >> n & 1) for n in range(5)]
        if (waits or not own) and (stuck or not (waits or stays or joins)):
            moments.append(("moment", waits, stuck, own, stays, joins))
    return tuple(sorted(moments + [ENDED]))


FORMS = all_fate_forms()
WAY_AT = {"own": 3, "stays": 4, "joins": 5}


def has_way(fate, way):
    """Whether a fate waits, and has the way."""
    return fate != ENDED and fate[1] and fate[WAY_AT[way]]


def born_with(word, ends):
    """The ends of a child whose parent holds these ends."""
    return tuple(ends) if word == "copy" else tuple("open" if held == "open" else "none" for held in ends)


def first_of(program):
    """The key of process 0."""
    return (program[1][0][0], program[0])


# Paths of one process. A standing is (place, ends, lives).


def moves(role, standing, every_read=False):
    """All early steps, or those with every read, from a standing: triples of word, key of the child or None, standing behind."""
    place, ends, lives = standing
    if not lives:
        return []
    found = [("aside", (name, born_with(word, ends)), standing) for word, name in role[2]]
    at = role[1][place]
    if at[0] == "end":
        found.append(("end", None, (place, ("none", "none"), False)))
    elif at[0] == "go":
        found.extend(("go", None, (target, ends, True)) for target in at[1])
    elif at[0] in ("copy", "start"):
        found.append((at[0], (at[1], born_with(at[0], ends)), (at[2], ends, True)))
    elif at[0] in ("mark", "close"):
        changed = list(ends)
        end = "rw".index(at[1])
        changed[end] = "none" if at[0] == "close" or ends[end] == "none" else "marked"
        found.append((at[0], None, (at[2], tuple(changed), True)))
    elif at[0] in ("write", "wait") or at[0] == "read" and (every_read or ends[0] == "none"):
        found.append((at[0], None, (at[1], ends, True)))
    return found


def paths(program, key, table):
    """The states that paths by a table come to, each with the least sum of its children, and all keys born.

    The table is a dict of keys to dicts of fates and numbers.
    """
    role = {role[0]: role for role in program[1]}[key[0]]
    sums = {((0, key[1], True), (True, NOTHING)): 0}
    born = set()
    ahead = list(sums)
    while ahead:
        state = ahead.pop(0)
        standing, (all_ended, bools) = state
        for word, child, behind in moves(role, standing):
            if word == "wait" and not all_ended:
                continue
            choices = [((all_ended, bools), 0)]
            if child is not None:
                born.add(child)
                choices = [((all_ended and fate == ENDED, joined(bools, fate)), number)
                           for fate, number in table.get(child, {}).items()]
            for children, number in choices:
                if sums[state] + number < sums.get((behind, children), float("inf")):
                    sums[behind, children] = sums[state] + number
                    ahead.append((behind, children))
    return sums, born


def joined(bools, fate):
    """The bools that were there, or that the fate has."""
    return bools if fate == ENDED else tuple(one or other for one, other in zip(bools, fate[1:]))


def follow(role, standing, children):
    """The fates that follow behind a path."""
    (place, (r, w), lives), (all_ended, bools) = standing, children
    word = role[1][place][0] if lives else ""
    waits = word == "read" and r != "none"
    stays = word == "stay"
    own = (waits, waits or stays, waits and w != "none", stays and w != "none", word == "wait" and w != "none" and bools[1])
    fates = {("moment",) + tuple(one or other for one, other in zip(bools, own))}
    return fates | {ENDED} if not lives and all_ended else fates


def numbers_by(program, key, table):
    """The dict of the fates that follow on paths by a table to the least numbers, and the keys born."""
    role = {role[0]: role for role in program[1]}[key[0]]
    sums, born = paths(program, key, table)
    numbers = {}
    for (standing, children), total in sums.items():
        for fate in follow(role, standing, children):
            numbers[fate] = min(numbers.get(fate, float("inf")), total + 1)
    return numbers, born


def least_numbers(program, key):
    """The least table with a key: for each key born the least number for each fate."""
    table = {key: {}}
    while True:
        later = {}
        for each in table:
            later[each], born = numbers_by(program, each, table)
            for child in born:
                later.setdefault(child, table.get(child, {}))
        if later == table:
            return table
        table = later


def fates_by(program, key):
    """The set of the fates of a key, ascending."""
    return tuple(sorted(least_numbers(program, key)[key]))


def all_by(program):
    """What all_fates has to return."""
    table = least_numbers(program, first_of(program))
    return tuple((name, ends, tuple(sorted(table[name, ends]))) for name, ends in sorted(table))


def few_by(program):
    """The least list with numbers, as few_paper has it."""
    table = least_numbers(program, first_of(program))
    return tuple((name, ends, tuple(sorted(table[name, ends].items()))) for name, ends in sorted(table))


# Lists that somebody hands in.


def is_entry(program, entry, numbered):
    """Whether any value is an entry, with fates alone or with pairs of a fate and a number."""
    if type(entry) is not tuple or len(entry) != 3 or type(entry[2]) is not tuple or not entry[2]:
        return False
    if entry[0] not in [role[0] for role in program[1]] or repr(entry[1]) not in [repr(pair) for pair in PAIRS]:
        return False
    fates = list(entry[2])
    if numbered:
        for pair in fates:
            if type(pair) is not tuple or len(pair) != 2 or type(pair[1]) is not int or pair[1] < 1:
                return False
        fates = [pair[0] for pair in fates]
    # repr tells True from 1.
    shown = [repr(fate) for fate in FORMS]
    if any(repr(fate) not in shown for fate in fates):
        return False
    return fates == sorted(set(fates))


def entries_fault(program, entries, numbered=False):
    """The first fault of entries, or None if they are a closed list."""
    before = None
    for k, entry in enumerate(entries):
        if not is_entry(program, entry, numbered) or before is not None and entry[:2] <= before:
            return ("entry", k)
        before = entry[:2]
    if first_of(program) not in [entry[:2] for entry in entries]:
        return ("first", -1)
    table = {}
    for name, ends, fates in entries:
        table[name, ends] = dict(fates) if numbered else {fate: 1 for fate in fates}
    for k, key in enumerate(table):
        numbers, born = numbers_by(program, key, table)
        if born - set(table):
            return ("birth", k)
        if set(numbers) - set(table[key]):
            return ("fate", k)
        if numbered and any(table[key][fate] > number for fate, number in numbers.items()):
            return ("number", k)
    return None


def list_fault(program, thing, ways):
    """The word and place that lets_fates has to tell, or None."""
    if type(thing) is not tuple:
        return ("shape", -1)
    fault = entries_fault(program, thing)
    if fault is not None:
        return fault
    k = [entry[:2] for entry in thing].index(first_of(program))
    return ("way", k) if any(has_way(fate, way) for fate in thing[k][2] for way in ways) else None


def closure(program, entries):
    """The least closed list that has all these entries and fates."""
    table = {(name, ends): {fate: 1 for fate in fates} for name, ends, fates in entries}
    table.setdefault(first_of(program), {})
    more = True
    while more:
        more = False
        for key in list(table):
            numbers, born = numbers_by(program, key, table)
            for child in born - set(table):
                table[child] = {}
                more = True
            for fate in set(numbers) - set(table[key]):
                table[key][fate] = 1
                more = True
    return tuple((name, ends, tuple(sorted(table[name, ends]))) for name, ends in sorted(table))


# Weavings of all steps of a few processes. A crowd is a tuple of rows (role, parent, place, ends, lives).


def early_crowds(program, key, most, limit=6000):
    """All crowds behind early weavings that begin with a process of the key, and whether none was left out.

    Births beyond so many processes are left out, and crowds beyond the limit.
    """
    return woven(program, (((key[0], None, 0, key[1], True),),), most, limit)


def woven(program, crowds, most, limit, every_read=False):
    """All crowds that weavings from these come to, and whether none was left out."""
    roles = {role[0]: role for role in program[1]}
    seen = dict.fromkeys(crowds)
    ahead = list(seen)
    whole = True
    while ahead:
        crowd = ahead.pop()
        for behind in steps_of(roles, crowd, every_read):
            if len(behind) > most or behind not in seen and len(seen) >= limit:
                whole = False
            elif behind not in seen:
                seen[behind] = None
                ahead.append(behind)
    return list(seen), whole


def steps_of(roles, crowd, every_read):
    """All crowds behind one step of any process."""
    for k, (name, parent, place, ends, lives) in enumerate(crowd):
        for word, child, (target, held, goes_on) in moves(roles[name], (place, ends, lives), every_read):
            if word == "wait" and any(crowd[other][4] for other in line(crowd, k)):
                continue
            rows = crowd[:k] + ((name, parent, target, held, goes_on),) + crowd[k + 1:]
            yield rows + (((child[0], k, 0, child[1], True),) if child is not None else ())


def line(crowd, process):
    """All that came of a process."""
    found = []
    for k, row in enumerate(crowd):
        if row[1] == process or row[1] in found:
            found.append(k)
    return found


def fate_seen(program, crowd, process=0):
    """The set of the fates that a process and all that came of it show in a crowd."""
    roles = {role[0]: role for role in program[1]}
    members = [process] + line(crowd, process)

    def is_at(k, word):
        return crowd[k][4] and roles[crowd[k][0]][1][crowd[k][2]][0] == word

    def has(k, end):
        return crowd[k][3]["rw".index(end)] != "none"

    def is_stuck(k):
        return is_at(k, "stay") or is_at(k, "read") and has(k, "r")

    moment = (
        "moment",
        any(is_at(k, "read") and has(k, "r") for k in members),
        any(is_stuck(k) for k in members),
        any(is_at(k, "read") and has(k, "r") and has(k, "w") for k in members),
        any(is_at(k, "stay") and has(k, "w") for k in members),
        any(is_at(k, "wait") and has(k, "w") and any(is_stuck(other) for other in line(crowd, k)) for k in members))
    return {moment} if any(crowd[k][4] for k in members) else {moment, ENDED}


def crowd_of(tree):
    """A crowd of the rows that tree_after returns."""
    return tuple((name, parent, place, (r, w), lives) for name, parent, place, r, w, lives in tree)


def keys_born(program, key):
    """A key, and all keys that births could lead to from it, as if nothing were in their way."""
    roles = {role[0]: role for role in program[1]}
    found = [key]
    for name, ends in found:
        standings = [(0, ends, True)]
        for standing in standings:
            for _, child, behind in moves(roles[name], standing, True):
                if behind not in standings:
                    standings.append(behind)
                if child is not None and child not in found:
                    found.append(child)
    return found
