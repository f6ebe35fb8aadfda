"""What follows behind paths of one process, and all that it lets be born.

An aspect tells what is asked: "fates" for all fates; "r" or "w" for moments at
which none of the line holds this end; "late" for moments at which none of it
holds w, and behind which all of it can end once each read is possible. Behind
each of the last three there is the code MOMENT; 0 means at each that all have
ended.
"""

from keptends.fatecodes import ENDED_ONLY, JOINS, MOMENT, OWN, STAYS, STUCK, STUCK_CODES, WAITS, raised
from keptends.kinds import BIRTHS
from keptends.lookups import targets_of
from keptends.paths import GONE


def mask_behind(aspect, role, masks, late):
    """Return the mask of what follows behind all paths that come to these positions so."""
    found = 0
    for position, mask in masks.items():
        found = found | _mask_at(aspect, role, position, mask, late)
    return found


def fates_behind(role, position, mask):
    """Return the mask of the fates behind paths to the position, of whose children this is the mask."""
    if position == GONE:
        return raised(mask, MOMENT) | (mask & ENDED_ONLY)
    place, r, w = position
    word = role[1][place][0]
    code = MOMENT
    if word == "read" and r != "none":
        code = code | WAITS | STUCK
        if w != "none":
            code = code | OWN
    if word == "stay":
        code = code | STUCK
        if w != "none":
            code = code | STAYS
    if word == "wait" and w != "none":
        stuck = mask & STUCK_CODES
        return raised(mask - stuck, code) | raised(stuck, code | JOINS)
    return raised(mask, code)


def late_places(roles):
    """Return a dict of the pairs (name, place) from which all can end where each read is possible."""
    late = {}
    more = True
    while more:
        more = False
        for name in roles:
            for place, instruction in enumerate(roles[name][1]):
                if (name, place) not in late and _ends_late(name, instruction, late):
                    late[(name, place)] = True
                    more = True
    return late


def _mask_at(aspect, role, position, mask, late):
    if aspect == "fates":
        return fates_behind(role, position, mask)
    if position == GONE:
        return (1 << MOMENT) | (mask & ENDED_ONLY)
    place, r, w = position
    if aspect == "late" and (role[0], place) not in late:
        return 0
    held = r if aspect == "r" else w
    return 1 << MOMENT if held == "none" else 0


def _ends_late(name, instruction, late):
    if instruction[0] == "end":
        return True
    # A child of that time has to end, too; the one that waits for it can, then.
    if instruction[0] in BIRTHS and (instruction[1], 0) not in late:
        return False
    return any([(name, target) in late for target in targets_of(instruction)])
