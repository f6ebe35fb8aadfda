"""What can be of a process and of all that came of it, behind early runs."""

from keptends.fatecodes import fate_of
from keptends.fatetables import first_key, least_table
from keptends.kinds import is_pair
from keptends.lookups import names_of
from keptends.orders import ascending
from keptends.programchecker import is_program
from keptends.usable import need


def is_fate(thing):
    """Return whether any value is a fate by form."""
    if not isinstance(thing, tuple) or len(thing) == 0:
        return False
    if len(thing) == 1:
        return thing[0] == "ended"
    if len(thing) != 6 or thing[0] != "moment" or not all([isinstance(one, bool) for one in thing[1:]]):
        return False
    _, waits, stuck, own, stays, joins = thing
    return (waits or not own) and (stuck or not (waits or stays or joins))


def fates_of(program, name, ends):
    """Return the set of the fates of the role with these ends."""
    need(is_program(program), "program")
    need(name in names_of(program), "name")
    need(is_pair(ends), "ends")
    return _fates_with(least_table(program, (name, ends), "fates")[(name, ends)])


def all_fates(program):
    """Return the ascending tuple of (name, ends, fates), for all that can be born."""
    need(is_program(program), "program")
    table = least_table(program, first_key(program), "fates")
    return tuple([key + (_fates_with(table[key]),) for key in ascending(list(table))])


def _fates_with(codes):
    return tuple([fate_of(code) for code in codes])
