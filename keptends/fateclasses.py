"""Tables of fates as objects."""

from keptends.errors import NotUsable
from keptends.fatechecker import lets_fates
from keptends.fatecodes import code_of, ways_in
from keptends.fates import all_fates
from keptends.fatetables import first_key
from keptends.lookups import names_of
from keptends.usable import need


class Fates:
    """The fates of all roles with the ends with which they are born. It never changes."""

    def __init__(self, program):
        self._least = all_fates(program)
        self._program = program
        self._table = self._least
        self._keys = _keys_of(self._table)

    @property
    def program_now(self):
        """The program."""
        return self._program

    @property
    def table_now(self):
        """The ascending tuple of the entries (name, ends, fates)."""
        return self._table

    @property
    def first_now(self):
        """The fates of the first role with begin."""
        return _fates_in(self._table, first_key(self._program))

    @property
    def ways_now(self):
        """The set of the ways that the fates of the first role with begin have."""
        return ways_in([code_of(fate) for fate in self.first_now])

    def __getitem__(self, at):
        """Return the fates of the entry with this pair (name, ends)."""
        need(at in self._keys, "key")
        return _fates_in(self._table, at)

    def __call__(self, name):
        """Return the set of the ends with which the role has an entry."""
        need(name in names_of(self._program), "name")
        return tuple([ends for role, ends in self._keys if role == name])

    def __contains__(self, x):
        """Return whether any value is the pair (name, ends) of an entry."""
        return x in self._keys

    def __len__(self):
        """Return how many entries there are."""
        return len(self._table)

    def __iter__(self):
        """Give the pairs (name, ends) of the entries, ascending."""
        return iter(self._keys)

    def __str__(self):
        """Return a line for each entry."""
        return "\n".join([_line_of(entry) for entry in self._table])

    def __eq__(self, other):
        """Return whether any value is a Fates of an equal program with an equal table."""
        return isinstance(other, Fates) and self._program == other._program and self._table == other._table

    def __le__(self, other):
        """Return whether the other Fates has each entry, with at least the same fates."""
        if not isinstance(other, Fates):
            raise NotUsable("other", -1)
        return all([_has_entry(other._table, entry) for entry in self._table])

    def __and__(self, other):
        """Return the Listed of the entries that both have, with the fates that are in both."""
        need(isinstance(other, Fates) and self._program == other._program, "other")
        both = [entry for entry in self._table if entry[:2] in other._keys]
        return Listed(self._program, tuple([_shared(entry, _fates_in(other._table, entry[:2])) for entry in both]))


class Listed(Fates):
    """Any closed list of a program as a table of fates."""

    def __init__(self, program, thing):
        lets_fates(program, thing, ways=())
        Fates.__init__(self, program)
        self._table = thing
        self._keys = _keys_of(thing)

    @property
    def table_now(self):
        """The closed list, as it was given."""
        return self._table

    @property
    def spare_now(self):
        """The entries with those of their fates alone that no process comes to."""
        spare = [_spare(entry, _fates_in(self._least, entry[:2])) for entry in self._table]
        return tuple([entry for entry in spare if len(entry[2]) > 0])


def _keys_of(table):
    return tuple([entry[:2] for entry in table])


def _fates_in(table, key):
    found = [fates for name, ends, fates in table if (name, ends) == key]
    return found[0] if len(found) > 0 else ()


def _has_entry(table, entry):
    # An entry always has fates, so none of a missing one are found.
    fates = _fates_in(table, entry[:2])
    return all([fate in fates for fate in entry[2]])


def _shared(entry, fates):
    return entry[:2] + (tuple([fate for fate in entry[2] if fate in fates]),)


def _spare(entry, fates):
    return entry[:2] + (tuple([fate for fate in entry[2] if fate not in fates]),)


def _line_of(entry):
    name, ends, fates = entry
    words = [_word_of(fate) for fate in fates]
    return " ".join([name, *ends, *words])


def _word_of(fate):
    if fate[0] == "ended":
        return "ended"
    return "".join(["+" if shown else "-" for shown in fate[1:]])
