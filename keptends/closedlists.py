"""Lists of entries (name, ends, fates), of fates alone or of pairs (fate, number): by form, and closed."""

from keptends.errors import InvalidPaper
from keptends.fatecodes import code_of, codes_in
from keptends.fates import is_fate
from keptends.fatetables import first_key
from keptends.follows import mask_behind
from keptends.kinds import is_number, is_pair
from keptends.lookups import names_of
from keptends.paths import born_along, graph_from, masks_along, start_of


def check_entries(program, entries, is_numbered):
    """Raise InvalidPaper unless these are ascending entries, one of them of process 0."""
    names = names_of(program)
    before = None
    for k, entry in enumerate(entries):
        if not _is_entry(names, entry, is_numbered) or before is not None and entry[:2] <= before:
            raise InvalidPaper("entry", k)
        before = entry[:2]
    if first_key(program) not in [entry[:2] for entry in entries]:
        raise InvalidPaper("first", -1)


def codes_by_key(entries):
    """Return the table of the entries, of fates alone: their codes for each key."""
    table = {}
    for name, ends, fates in entries:
        table[(name, ends)] = tuple([code_of(fate) for fate in fates])
    return table


def check_closed(roles, table, key, k):
    """Raise InvalidPaper unless what follows on paths of the key, of the entry k, is in the table."""
    graph = graph_from(roles[key[0]], start_of(key))
    masks = masks_along(graph, start_of(key), table)
    if any([child not in table for child in born_along(graph, masks)]):
        raise InvalidPaper("birth", k)
    if any([code not in table[key] for code in codes_in(mask_behind("fates", roles[key[0]], masks, {}))]):
        raise InvalidPaper("fate", k)


def _is_entry(names, thing, is_numbered):
    if not isinstance(thing, tuple) or len(thing) != 3:
        return False
    name, ends, fates = thing
    if name not in names or not is_pair(ends) or not isinstance(fates, tuple) or len(fates) == 0:
        return False
    if is_numbered:
        if not all([_is_numbered(one) for one in fates]):
            return False
        return _are_fates([fate for fate, _ in fates])
    return _are_fates(fates)


def _is_numbered(thing):
    return isinstance(thing, tuple) and len(thing) == 2 and is_number(thing[1]) and thing[1] > 0


def _are_fates(things):
    if not all([is_fate(thing) for thing in things]):
        return False
    # Codes ascend as their fates do.
    codes = [code_of(thing) for thing in things]
    return all([one < other for one, other in zip(codes, codes[1:])])
