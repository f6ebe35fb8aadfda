"""The checker of papers of least sets of shuts."""

from keptends.errors import InvalidPaper
from keptends.fatechecker import lets_fates
from keptends.hangings import ways_at_end
from keptends.kinds import WAYS
from keptends.runchecker import is_run
from keptends.shuttings import is_shut, need_shuts, shut, shut_but


def lets_shuts(program, shuts, thing, *, ways=WAYS):
    """Return how many shuts a least set has, as the paper shows, or raise InvalidPaper."""
    need_shuts(program, shuts, ways)
    if not isinstance(thing, tuple) or len(thing) != 3 or not all([isinstance(part, tuple) for part in thing]):
        raise InvalidPaper("shape", -1)
    some, entries, runs = thing
    for k, one in enumerate(some):
        # Its form comes first: True is no place, though it is equal to 1.
        if not is_shut(program, one) or one not in shuts or k > 0 and one <= some[k - 1]:
            raise InvalidPaper("shut", k)
    if not _is_list_without(shut(program, some), entries, ways):
        raise InvalidPaper("list", -1)
    if len(runs) != len(some):
        raise InvalidPaper("many", -1)
    for k, run in enumerate(runs):
        _check_run(shut_but(program, some, k), run, ways, k)
    return len(some)


def _is_list_without(program, entries, ways):
    try:
        lets_fates(program, entries, ways=ways)
    except InvalidPaper:
        return False
    return True


def _check_run(program, run, ways, k):
    if not is_run(program, run):
        raise InvalidPaper("run", k)
    found = ways_at_end(program, run)
    if not any([way in found for way in ways]):
        raise InvalidPaper("way", k)
