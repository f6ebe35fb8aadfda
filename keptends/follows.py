"""What follows behind paths of one process, and all that it lets be born.

An aspect tells what is asked: "fates" for all fates; "r" or "w" for moments at
which none of the line holds this end. Of the line that holds no r the code is
LOUD if one of it is at a write, and holds w; of the one that holds no w it is
BOUND if not all of it can end, once each read is possible. Otherwise the code of
such a moment is MOMENT, and 0 means at each aspect that all have ended.
"""

from keptends.fatecodes import BOUND, ENDED_ONLY, JOINS, LOUD, MOMENT, OWN, STAYS, STUCK, STUCK_CODES, WAITS, raised
from keptends.kinds import BIRTHS
from keptends.lookups import targets_of
from keptends.paths import GONE


def mask_behind(aspect, role, masks, late):
    """Return the mask of what follows behind all paths that come to these positions so."""
    found = 0
    for position, mask in masks.items():
        found = found | mask_at(aspect, role, position, mask, late)
    return found


def mask_at(aspect, role, position, mask, late):
    """Return the mask of what follows behind paths to the position, of whose children this is the mask."""
    if position == GONE:
        return raised(mask, MOMENT) | (mask & ENDED_ONLY)
    place, r, w = position
    word = role[1][place][0]
    if aspect == "fates":
        return _fates_at(word, r, w, mask)
    if aspect == "r":
        if r != "none":
            return 0
        return raised(mask, LOUD if word == "write" and w != "none" else MOMENT)
    if w != "none":
        return 0
    return raised(mask, MOMENT if (role[0], place) in late else BOUND)


def late_costs(aspect, roles):
    """Return a dict of the pairs (name, place) from which all can end where each read is possible.

    Behind each stands how many steps that needs at least, if none that was born
    before does any. The aspects but "w" ask for none of this.
    """
    costs = {}
    if aspect != "w":
        return costs
    more = True
    while more:
        more = False
        for name in roles:
            for place, instruction in enumerate(roles[name][1]):
                cost = _cost_from(name, instruction, costs)
                if cost is not None and ((name, place) not in costs or cost < costs[(name, place)]):
                    costs[(name, place)] = cost
                    more = True
    return costs


def nearest(name, targets, costs):
    """Return the one of the targets from which the fewest steps lead to an end, or None."""
    best = None
    for target in targets:
        if (name, target) in costs and (best is None or costs[(name, target)] < costs[(name, best)]):
            best = target
    return best


def _fates_at(word, r, w, mask):
    code = MOMENT
    if word == "read" and r != "none":
        code = code | WAITS | STUCK
        if w != "none":
            code = code | OWN
    if word == "stay":
        code = code | STUCK
        if w != "none":
            code = code | STAYS
    if word == "wait" and w != "none":
        stuck = mask & STUCK_CODES
        return raised(mask - stuck, code) | raised(stuck, code | JOINS)
    return raised(mask, code)


def _cost_from(name, instruction, costs):
    if instruction[0] == "end":
        return 1
    target = nearest(name, targets_of(instruction), costs)
    if target is None:
        return None
    if instruction[0] not in BIRTHS:
        return 1 + costs[(name, target)]
    # A child of that time has to end, too; one that waits for it can go on, then.
    child = (instruction[1], 0)
    return 1 + costs[(name, target)] + costs[child] if child in costs else None
