"""Sets of shuts as objects."""

from keptends.errors import NotUsable
from keptends.hangs import can_hang, ways_of
from keptends.harms import harms_of
from keptends.kinds import WAYS
from keptends.orders import ascending
from keptends.shuttings import is_shut, least_shuts, shut
from keptends.usable import need


class Shuts:
    """A set of shuts of a program, which never changes."""

    def __init__(self, program, shuts=()):
        self._shut = shut(program, shuts)
        self._program = program
        self._shuts = shuts

    @property
    def program_now(self):
        """The program without the shuts."""
        return self._program

    @property
    def shuts_now(self):
        """The set of the shuts, an ascending tuple."""
        return self._shuts

    @property
    def shut_now(self):
        """The program with the shuts put in."""
        return self._shut

    @property
    def ways_now(self):
        """The set of the ways in which the program can hang with the shuts put in."""
        return ways_of(self._shut)

    @property
    def harms_now(self):
        """The set of the harms that can happen with the shuts put in."""
        return harms_of(self._shut)

    def spares(self, *, ways=WAYS):
        """Return whether the program can hang in none of the ways with the shuts put in."""
        return not can_hang(self._shut, ways=ways)

    def least_within(self, *, ways=WAYS):
        """Yield the Shuts of the least sets of some of these with which the program hangs in none of the ways."""
        for some in least_shuts(self._program, self._shuts, ways=ways):
            yield Shuts(self._program, some)

    def __add__(self, other):
        """Return the Shuts with this shut, too."""
        need(is_shut(self._program, other), "shut")
        return Shuts(self._program, ascending(list(self._shuts) + [other]))

    def __sub__(self, other):
        """Return the Shuts without this one of them."""
        need(other in self, "shut")
        return Shuts(self._program, tuple([one for one in self._shuts if one != other]))

    def __or__(self, other):
        """Return the Shuts of those in one of both."""
        need(self._is_beside(other), "other")
        return Shuts(self._program, ascending(list(self._shuts) + list(other.shuts_now)))

    def __and__(self, other):
        """Return the Shuts of those in both."""
        need(self._is_beside(other), "other")
        return Shuts(self._program, tuple([one for one in self._shuts if one in other.shuts_now]))

    def __le__(self, other):
        """Return whether all of these are in the other Shuts."""
        if not self._is_beside(other):
            raise NotUsable("other", -1)
        return all([one in other.shuts_now for one in self._shuts])

    def __eq__(self, other):
        """Return whether any value is a Shuts of an equal program with equal shuts."""
        return isinstance(other, Shuts) and self._program == other._program and self._shuts == other._shuts

    def __contains__(self, x):
        """Return whether any value is one of the shuts."""
        return is_shut(self._program, x) and x in self._shuts

    def __len__(self):
        """Return how many shuts there are."""
        return len(self._shuts)

    def __iter__(self):
        """Give the shuts, ascending."""
        return iter(self._shuts)

    def __str__(self):
        """Return the shuts as words, or - if there are none."""
        if len(self._shuts) == 0:
            return "-"
        return ", ".join([f"{word} {name} {place}" for name, place, word in self._shuts])

    def _is_beside(self, other):
        return isinstance(other, Shuts) and self._program == other._program
