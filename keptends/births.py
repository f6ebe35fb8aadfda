"""Rules of birth: what harms there are with each begin, and with all births by one word."""

from keptends.harms import harms_of
from keptends.kinds import BIRTHS, HARMS, is_words_of
from keptends.programchanges import with_begin, with_births
from keptends.programchecker import is_program
from keptends.usable import need

BEGINS = (("marked", "marked"), ("marked", "open"), ("open", "marked"), ("open", "open"))
AS_IT_IS = "as it is"


def births_table(program):
    """Return a list of twelve rows (begin, word, set of the harms that can happen so)."""
    need(is_program(program), "program")
    rules = [(begin, word) for begin in BEGINS for word in (AS_IT_IS,) + BIRTHS]
    return [(begin, word, harms_of(_changed(program, begin, word))) for begin, word in rules]


def births_without(program, *, harms=HARMS):
    """Return the tuple of the pairs (begin, word) of the rows in which none of the harms is found."""
    need(is_program(program), "program")
    need(is_words_of(harms, HARMS), "harms")
    rows = births_table(program)
    return tuple([(begin, word) for begin, word, found in rows if not any([harm in found for harm in harms])])


def _changed(program, begin, word):
    begun = with_begin(program, begin)
    return begun if word == AS_IT_IS else with_births(begun, word)
