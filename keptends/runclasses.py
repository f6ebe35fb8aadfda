"""Runs as objects."""

from keptends.errors import NotUsable
from keptends.hangings import first_shown, harms_shown, ways_at_end
from keptends.kinds import is_number
from keptends.orders import ascending
from keptends.programchecker import is_program
from keptends.runchecker import is_run
from keptends.runreadings import read_run
from keptends.runs import after_step
from keptends.runtexts import run_text
from keptends.showings import firsts_of
from keptends.trees import holders_in, is_at_rest, next_steps, tree_after, waiting_in
from keptends.usable import need


class Run:
    """A run of a program, which never changes: + and - return another one of its class."""

    def __init__(self, program, steps=()):
        need(is_run(program, steps), "steps")
        self._program = program
        self._steps = steps
        self._tree = tree_after(program, steps)

    @property
    def program_now(self):
        """The program."""
        return self._program

    @property
    def run_now(self):
        """The run, a tuple of steps."""
        return self._steps

    @property
    def tree_now(self):
        """The tuple of the rows of the processes behind the run."""
        return self._tree

    @property
    def next_now(self):
        """The set of the steps that are possible behind the run."""
        return next_steps(self._program, self._steps)

    @property
    def rest_now(self):
        """Whether no step but asides is possible behind the run."""
        return is_at_rest(self._program, self._steps)

    @property
    def waiting_now(self):
        """The set of the processes that wait at a read."""
        return waiting_in(self._program, self._steps)

    @property
    def ways_now(self):
        """The set of the ways in which the run hangs."""
        return ways_at_end(self._program, self._steps)

    @property
    def harms_now(self):
        """The set of the harms that the run shows."""
        return harms_shown(self._program, self._steps)

    def holders(self, end):
        """Return the set of the processes that hold the end."""
        return holders_in(self._program, self._steps, end)

    def first(self, harm):
        """Return how many steps the shortest beginning has that shows the harm, or None."""
        return first_shown(self._program, self._steps, harm)

    def __add__(self, other):
        """Return the run with this step more."""
        return self._with_steps(self._program, after_step(self._program, self._steps, other))

    def __sub__(self, other):
        """Return the run without so many of its last steps."""
        many = len(self._steps)
        need(is_number(other) and other <= many, "count")
        return self._with_steps(self._program, self._steps[:many - other])

    def __mod__(self, other):
        """Return the tuple of the steps of this process."""
        need(other in self, "process")
        return tuple([step for step in self._steps if step[0] == other])

    def __getitem__(self, at):
        """Return the row of this process."""
        need(at in self, "process")
        return self._tree[at]

    def __contains__(self, x):
        """Return whether any value is the number of a process that was born."""
        return is_number(x) and x < len(self._tree)

    def __len__(self):
        """Return how many steps there are."""
        return len(self._steps)

    def __iter__(self):
        """Give the steps, in order."""
        return iter(self._steps)

    def __str__(self):
        """Return the run as a text."""
        return str(run_text(self._steps))

    def __eq__(self, other):
        """Return whether any value is a Run of an equal program with equal steps."""
        return isinstance(other, Run) and self._program == other._program and self._steps == other._steps

    def __le__(self, other):
        """Return whether the other Run is of an equal program, and begins with these steps."""
        if not isinstance(other, Run):
            raise NotUsable("other", -1)
        return self._program == other._program and self._steps == other._steps[:len(self._steps)]

    @classmethod
    def read(cls, program, text):
        """Return the Run of the program that the text writes."""
        need(is_program(program), "program")
        steps = read_run(text)
        need(is_run(program, steps), "text")
        return cls(program, steps)

    @classmethod
    def _with_steps(cls, program, steps):
        return cls(program, steps)


class Quiet(Run):
    """A Run that shows no harm but those that are shown ahead of its first step."""

    def __init__(self, program, steps=()):
        Run.__init__(self, program, steps)
        late = [first for first in list(firsts_of(program, steps).values()) if first > 0]
        if len(late) > 0:
            # A harm is first shown behind so many steps: by the last one of them.
            raise NotUsable("harm", ascending(late)[0] - 1)
