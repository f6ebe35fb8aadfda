"""Hanging, for all numbers of processes."""

from keptends.fatecodes import has_way, ways_in
from keptends.fatetables import first_key, least_table
from keptends.kinds import WAYS, is_words_of
from keptends.leastruns import run_to
from keptends.leastsums import least_numbers
from keptends.programchecker import is_program
from keptends.usable import need


def ways_of(program):
    """Return the set of the ways in which the program can hang."""
    need(is_program(program), "program")
    key = first_key(program)
    return ways_in(least_table(program, key, "fates")[key])


def can_hang(program, *, ways=WAYS):
    """Return whether the program can hang in one of the ways."""
    need(is_program(program), "program")
    need(is_words_of(ways, WAYS), "ways")
    found = ways_of(program)
    return any([way in found for way in ways])


def fewest_processes(program, way):
    """Return how many processes there are at least in a run that hangs so, or None."""
    need(is_program(program), "program")
    need(way in WAYS, "way")
    numbers = least_numbers(program, first_key(program), "fates")[first_key(program)]
    return _fewest(numbers, way)[1]


def hang_run(program, way):
    """Return a run with the fewest processes that hangs in this way, or None."""
    need(is_program(program), "program")
    need(way in WAYS, "way")
    table = least_numbers(program, first_key(program), "fates")
    code, number = _fewest(table[first_key(program)], way)
    return None if number is None else run_to(program, "fates", code, table)


def _fewest(numbers, way):
    # The pair of the code with the way that needs the fewest processes, and their number.
    fewest = (None, None)
    for code, number in numbers:
        if has_way(code, way) and (fewest[1] is None or number < fewest[1]):
            fewest = (code, number)
    return fewest
