"""Fates as numbers, and sets of them as numbers, too.

The code of ("ended",) is 0. That of a moment is MOMENT and one bit more for each
of its bools that is True; so codes ascend as their fates do, and what several
children have come to together is the code with the bits that one of theirs has.
A mask stands for a set of codes: it has the bit with the index of each.
"""

from keptends.kinds import WAYS
from keptends.orders import ascending

JOINS = 1
STAYS = 2
OWN = 4
STUCK = 8
WAITS = 16
MOMENT = 32
# Of the other aspects that follows tells of, where the bit of STUCK has other meanings.
LOUD = 40
BOUND = 40
# Of the bools of a moment, in their order.
BITS = (16, 8, 4, 2, 1)
BIT_OF_WAY = {"own": 4, "stays": 2, "joins": 1}
# All codes of fates by form, ascending.
CODES = (0, 32, 40, 41, 42, 43, 56, 57, 58, 59, 60, 61, 62, 63)
# For each bit of a code the mask of all codes that lack it.
LACKING = (
    (1, 0x5555555555555555),
    (2, 0x3333333333333333),
    (4, 0x0F0F0F0F0F0F0F0F),
    (8, 0x00FF00FF00FF00FF),
    (16, 0x0000FFFF0000FFFF),
    (32, 0x00000000FFFFFFFF),
)
STUCK_CODES = 0xFF00FF00FF00FF00
# The mask of the code 0 alone: all have ended, or none was born.
ENDED_ONLY = 1


def code_of(fate):
    """Return the code of the fate."""
    if fate[0] == "ended":
        return 0
    return MOMENT + sum([bit for bit, shown in zip(BITS, fate[1:]) if shown])


def fate_of(code):
    """Return the fate with this code."""
    if code == 0:
        return ("ended",)
    return ("moment",) + tuple([(code & bit) != 0 for bit in BITS])


def has_way(code, way):
    """Return whether the fate with this code waits, and has the way."""
    return (code & WAITS) != 0 and (code & BIT_OF_WAY[way]) != 0


def ways_in(codes):
    """Return the set of the ways that some of the fates with these codes have."""
    return ascending([way for way in WAYS if any([has_way(code, way) for code in codes])])


def codes_in(mask):
    """Return the ascending tuple of the codes in the mask."""
    return tuple([code for code in CODES if mask >> code & 1])


def raised(mask, code):
    """Return the mask of the codes in this mask, each with the bits of the code, too."""
    found = mask
    for bit, lacking in LACKING:
        if code & bit:
            # A code with one bit more is greater by just this bit.
            without = found & lacking
            found = (found - without) | (without << bit)
    return found


def joined(mask, codes):
    """Return the mask of the codes in this mask, each with the bits of any one of the codes."""
    found = 0
    for code in codes:
        found = found | raised(mask, code)
    return found
