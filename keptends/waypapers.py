"""Papers of one way of hanging. That the arguments are as stated is asked by hang_run."""

from keptends.fatecodes import fate_of
from keptends.fates import all_fates
from keptends.fatetables import first_key
from keptends.hangs import hang_run
from keptends.leastsums import least_numbers
from keptends.orders import ascending


def way_paper(program, way):
    """Return a paper that lets_way accepts."""
    run = hang_run(program, way)
    return ("fates", all_fates(program)) if run is None else ("run", run)


def few_paper(program, way):
    """Return a paper that lets_few accepts, or None if the program cannot hang in this way."""
    run = hang_run(program, way)
    if run is None:
        return None
    table = least_numbers(program, first_key(program), "fates")
    return ("few", run, tuple([_entry_of(key, table[key]) for key in ascending(list(table))]))


def _entry_of(key, numbers):
    return key + (tuple([(fate_of(code), number) for code, number in numbers]),)
