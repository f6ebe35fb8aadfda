"""The checkers of papers of one way of hanging."""

from keptends.closedlists import check_closed, check_entries
from keptends.errors import InvalidPaper
from keptends.fatechecker import lets_fates
from keptends.fatecodes import code_of, has_way
from keptends.fatetables import first_key
from keptends.hangings import ways_at_end
from keptends.kinds import WAYS
from keptends.leastsums import legs_of, numbers_behind
from keptends.lookups import roles_by_name
from keptends.programchecker import is_program
from keptends.runchecker import is_run, lets_run
from keptends.usable import need


def lets_way(program, way, thing):
    """Return whether the program can hang in this way, as the paper shows, or raise InvalidPaper."""
    need(is_program(program), "program")
    need(way in WAYS, "way")
    if not isinstance(thing, tuple) or len(thing) != 2 or thing[0] not in ("run", "fates"):
        raise InvalidPaper("shape", -1)
    word, shown = thing
    if word == "run":
        _check_run(program, way, shown)
        return True
    lets_fates(program, shown, ways=(way,))
    return False


def lets_few(program, way, thing):
    """Return the fewest processes of a run that hangs so, as the paper shows, or raise InvalidPaper."""
    need(is_program(program), "program")
    need(way in WAYS, "way")
    if not isinstance(thing, tuple) or len(thing) != 3 or thing[0] != "few" or not isinstance(thing[2], tuple):
        raise InvalidPaper("shape", -1)
    _, run, entries = thing
    _check_run(program, way, run)
    check_entries(program, entries, True)
    roles = roles_by_name(program)
    table = {}
    for name, ends, fates in entries:
        table[(name, ends)] = tuple([(code_of(fate), number) for fate, number in fates])
    codes = {key: tuple([code for code, _ in table[key]]) for key in table}
    for k, entry in enumerate(entries):
        check_closed(roles, codes, entry[:2], k)
        _check_numbers(roles, table, entry[:2], k)
    many = lets_run(program, run)
    numbers = [number for code, number in table[first_key(program)] if has_way(code, way)]
    if many not in numbers or any([number < many for number in numbers]):
        raise InvalidPaper("fewest", -1)
    return many


def _check_run(program, way, thing):
    if not is_run(program, thing):
        raise InvalidPaper("run", -1)
    if way not in ways_at_end(program, thing):
        raise InvalidPaper("way", -1)


def _check_numbers(roles, table, key, k):
    least = numbers_behind("fates", roles[key[0]], legs_of(roles, key, table), {})
    given = table[key]
    # All that follows has a number: the list is closed here.
    if any([number > most for code, number in given for other, most in least if other == code]):
        raise InvalidPaper("number", k)
