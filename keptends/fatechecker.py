"""The checker of closed lists."""

from keptends.closedlists import check_closed, check_entries, codes_by_key
from keptends.errors import InvalidPaper
from keptends.fatecodes import has_way
from keptends.fatetables import first_key
from keptends.kinds import WAYS, is_words_of
from keptends.lookups import roles_by_name
from keptends.programchecker import is_program
from keptends.usable import need


def lets_fates(program, thing, *, ways=WAYS):
    """Return how many entries a closed list has by which process 0 has none of the ways, or raise InvalidPaper."""
    need(is_program(program), "program")
    need(is_words_of(ways, WAYS), "ways")
    if not isinstance(thing, tuple):
        raise InvalidPaper("shape", -1)
    check_entries(program, thing, False)
    roles = roles_by_name(program)
    table = codes_by_key(thing)
    for k, entry in enumerate(thing):
        check_closed(roles, table, entry[:2], k)
    first = first_key(program)
    if any([has_way(code, way) for code in table[first] for way in ways]):
        raise InvalidPaper("way", [entry[:2] for entry in thing].index(first))
    return len(thing)
