"""Programs as objects."""

from keptends.errors import NotUsable
from keptends.programchanges import put_in, renamed, with_asides, with_begin, with_births
from keptends.programchanges import with_instruction, with_role, without_role
from keptends.programchecker import lets_program
from keptends.programparts import births_in, names_in, role_in
from keptends.programreadings import read_program
from keptends.programtexts import program_text


class Program:
    """A program, which never changes: what changes it returns another Program."""

    def __init__(self, begin, roles):
        lets_program((begin, roles))
        self._form = (begin, roles)
        self._names = names_in((begin, roles))

    @property
    def begin_now(self):
        """How process 0 holds the ends at first."""
        return self._form[0]

    @property
    def roles_now(self):
        """The tuple of the roles."""
        return self._form[1]

    @property
    def form_now(self):
        """The pair of the begin and the roles."""
        return self._form

    @property
    def names_now(self):
        """The tuple of the names of the roles, in their order."""
        return self._names

    def __getitem__(self, at):
        """Return the role with this name."""
        return role_in(self._form, at)

    def __call__(self, name):
        """Return the set of all births of the role."""
        return births_in(self._form, name)

    def __contains__(self, x):
        """Return whether any value is the name of a role."""
        return x in self._names

    def __len__(self):
        """Return how many roles there are."""
        return len(self._names)

    def __iter__(self):
        """Give the names of the roles, in their order."""
        return iter(self._names)

    def __str__(self):
        """Return the program as a text."""
        return str(program_text(self._form))

    def __eq__(self, other):
        """Return whether any value is a Program with an equal form."""
        return isinstance(other, Program) and self._form == other._form

    def __le__(self, other):
        """Return whether each role is, as it is, a role of the other Program."""
        if not isinstance(other, Program):
            raise NotUsable("other", -1)
        return all([role in other._form[1] for role in self._form[1]])

    def __add__(self, other):
        """Return the Program with this role behind all."""
        begin, roles = with_role(self._form, other)
        return Program(begin, roles)

    def __sub__(self, other):
        """Return the Program without the role of this name."""
        begin, roles = without_role(self._form, other)
        return Program(begin, roles)

    def __mod__(self, other):
        """Return the Program in which all births and asides are by this word."""
        begin, roles = with_births(self._form, other)
        return Program(begin, roles)

    def ahead(self, role):
        """Return the Program with this role ahead of all."""
        begin, roles = with_role(self._form, role, at=0)
        return Program(begin, roles)

    def begun(self, begin):
        """Return the Program with this begin."""
        changed, roles = with_begin(self._form, begin)
        return Program(changed, roles)

    def placed(self, name, place, instruction):
        """Return the Program with the instruction at the place."""
        begin, roles = with_instruction(self._form, name, place, instruction)
        return Program(begin, roles)

    def beside(self, name, asides):
        """Return the Program in which the role has these asides."""
        begin, roles = with_asides(self._form, name, asides)
        return Program(begin, roles)

    def called(self, old, new):
        """Return the Program in which the role old is called new."""
        begin, roles = renamed(self._form, old, new)
        return Program(begin, roles)

    def shut_at(self, name, place, instruction):
        """Return the Program with (word, end) put in ahead of the place."""
        begin, roles = put_in(self._form, name, place, instruction)
        return Program(begin, roles)

    @staticmethod
    def of(*roles, begin=("open", "open")):
        """Return the Program of these roles with this begin."""
        return Program(begin, roles)

    @classmethod
    def read(cls, text):
        """Return the Program that the text writes."""
        begin, roles = read_program(text)
        return cls.of(*roles, begin=begin)


class Reborn(Program):
    """A Program whose births and asides are all by one word."""

    def __init__(self, begin, roles, word):
        # with_births would call all that is no program NotUsable.
        lets_program((begin, roles))
        changed, others = with_births((begin, roles), word)
        Program.__init__(self, changed, others)
        self._source = (begin, roles)
        self._word = word

    @property
    def source_now(self):
        """The pair (begin, roles) as it was given."""
        return self._source

    @property
    def birth_now(self):
        """The word by which all births and asides are."""
        return self._word
