"""Shuts told a second time, plainly and slowly, to compare the package with."""

import itertools

from tests.fateoracle import first_of, has_way, least_numbers, list_fault
from tests.oracle import World


def put_together(program, shuts):
    """The program with all shuts put in, by new numbers for all places at once."""
    begin, roles = program
    changed = []
    for name, places, asides in roles:
        ahead = {place: [word for word in ("close", "mark") if (name, place, word) in shuts] for place in range(len(places))}
        # Where each place begins now: at what is put in ahead of it, if there is any.
        starts, count = {}, 0
        for place in range(len(places)):
            starts[place] = count
            count += len(ahead[place]) + 1
        rows = []
        for place, at in enumerate(places):
            for word in ahead[place]:
                rows.append((word, "w", len(rows) + 1))
            if at[0] == "go":
                rows.append(("go", tuple(starts[target] for target in at[1])))
            else:
                rows.append(tuple(starts[part] if isinstance(part, int) else part for part in at))
        changed.append((name, tuple(rows), asides))
    return (begin, tuple(changed))


def ways_by(program):
    """The set of the ways of hanging, by the second telling of fates."""
    fates = least_numbers(program, first_of(program))[first_of(program)]
    return {way for way in ("own", "stays", "joins") if any(has_way(fate, way) for fate in fates)}


def sets_of(shuts):
    """All sets of some of the shuts."""
    return [some for many in range(len(shuts) + 1) for some in itertools.combinations(shuts, many)]


def least_and_greatest(program, shuts, ways):
    """The least sets that spare the ways, and the greatest ones that do not, by a look at all sets."""
    hangs = {some: bool(ways_by(put_together(program, some)) & set(ways)) for some in sets_of(shuts)}
    least = [some for some in hangs if not hangs[some] and not any(
        not hangs[other] and set(other) < set(some) for other in hangs)]
    greatest = [some for some in hangs if hangs[some] and not any(
        hangs[other] and set(other) > set(some) for other in hangs)]
    return tuple(sorted(least)), tuple(sorted(greatest))


def paper_fault(program, shuts, thing, ways):
    """The word and place that lets_shuts has to tell, or None."""
    if type(thing) is not tuple or len(thing) != 3 or any(type(part) is not tuple for part in thing):
        return ("shape", -1)
    some, entries, runs = thing
    shown = [repr(one) for one in shuts]
    for k, one in enumerate(some):
        # repr tells True from 1.
        if repr(one) not in shown or k and shown.index(repr(one)) <= shown.index(repr(some[k - 1])):
            return ("shut", k)
    if list_fault(put_together(program, some), entries, ways) is not None:
        return ("list", -1)
    if len(runs) != len(some):
        return ("many", -1)
    for k, run in enumerate(runs):
        word = run_fault(put_together(program, some[:k] + some[k + 1:]), run, ways)
        if word is not None:
            return (word, k)
    return None


def run_fault(program, run, ways):
    """Whether a value is no run of the program, or one that does not hang so at its end."""
    if type(run) is not tuple:
        return "run"
    world = World(program)
    for step in run:
        if world.fault(step) is not None:
            return "run"
        world.do(step)
    return None if set(world.ways()) & set(ways) else "way"
