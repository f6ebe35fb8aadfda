"""Papers of least sets of shuts. That the arguments are as stated is asked by least_shuts."""

from keptends.fates import all_fates
from keptends.hangs import hang_run, ways_of
from keptends.kinds import WAYS
from keptends.shuttings import least_shuts, shut, shut_but


def shut_paper(program, shuts, *, ways=WAYS):
    """Return a paper that lets_shuts accepts, or None if all of the shuts leave one of the ways."""
    least = least_shuts(program, shuts, ways=ways)
    if len(least) == 0:
        return None
    some = least[0]
    runs = [_run_in(shut_but(program, some, k), ways) for k in range(len(some))]
    return (some, all_fates(shut(program, some)), tuple(runs))


def _run_in(program, ways):
    # Without one of a least set the program still can hang in one of the ways.
    left = [way for way in ways_of(program) if way in ways]
    return hang_run(program, left[0])
