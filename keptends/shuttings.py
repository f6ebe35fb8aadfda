"""Closings and marks of w that are put in, and the least and greatest sets of them."""

from keptends.hangs import can_hang
from keptends.kinds import WAYS, ascends, is_words_of
from keptends.lookups import has_place, names_of
from keptends.orders import ascending
from keptends.programchanges import put_in
from keptends.programchecker import is_program
from keptends.usable import need


def is_shut(program, thing):
    """Return whether any value is a shut of the program: (name, place, "mark" or "close")."""
    if not isinstance(thing, tuple) or len(thing) != 3:
        return False
    name, place, word = thing
    return name in names_of(program) and has_place(program, name, place) and word in ("mark", "close")


def is_shuts(program, thing):
    """Return whether any value is a set of shuts of the program."""
    if not isinstance(thing, tuple) or not all([is_shut(program, one) for one in thing]):
        return False
    return ascends(thing)


def shut(program, shuts):
    """Return the program with all of the shuts put in."""
    need(is_program(program), "program")
    need(is_shuts(program, shuts), "shuts")
    changed = program
    # From behind, so that the places of those ahead stay what they are; at one
    # place the closing is put in last, and so stands ahead of the marking.
    for name, place, word in shuts[::-1]:
        changed = put_in(changed, name, place, (word, "w"))
    return changed


def least_shuts(program, shuts, *, ways=WAYS):
    """Return the set of the least sets of some of the shuts with which the program hangs in none of the ways."""
    need_shuts(program, shuts, ways)
    found = []
    for some in _sets_of(shuts):
        if not any([_is_within(least, some) for least in found]):
            if not can_hang(shut(program, some), ways=ways):
                found.append(some)
    return ascending(found)


def greatest_shuts(program, shuts, *, ways=WAYS):
    """Return the set of the greatest sets of some of the shuts with which the program can hang in one of the ways."""
    need_shuts(program, shuts, ways)
    found = []
    for some in _sets_of(shuts)[::-1]:
        if not any([_is_within(some, greatest) for greatest in found]):
            if can_hang(shut(program, some), ways=ways):
                found.append(some)
    return ascending(found)


def shut_but(program, shuts, k):
    """Return the program with all of the shuts put in but the one with the index k."""
    return shut(program, shuts[:k] + shuts[k + 1:])


def need_shuts(program, shuts, ways):
    """Raise NotUsable unless these are a program, a set of shuts of it, and ways."""
    need(is_program(program), "program")
    need(is_shuts(program, shuts), "shuts")
    need(is_words_of(ways, WAYS), "ways")


def _sets_of(shuts):
    # The list of all sets of some of the shuts, each behind all that lie within it.
    sets = [()]
    for one in shuts:
        sets = sets + [some + (one,) for some in sets]
    return sets


def _is_within(some, others):
    return all([one in others for one in some])
