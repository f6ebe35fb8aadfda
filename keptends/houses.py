"""Live houses: a run that is led on by events, with all that is told of it."""

from keptends.errors import Broken, InvalidEvent, NothingToUndo
from keptends.hangings import harms_shown, ways_at_end
from keptends.houseevents import careful_behind, parts_of, reason_against
from keptends.kinds import SWITCHES, is_number
from keptends.orders import ascending
from keptends.pictures import run_picture
from keptends.programchecker import is_program
from keptends.showings import firsts_of
from keptends.trees import holders_in, next_steps, tree_after, waiting_in
from keptends.usable import need
from keptends.waysleft import ways_left_behind


class Trial:
    """At its end the house is as it was when the trial was made, but for what it counts."""

    def __init__(self, house, events):
        self._house = house
        self._kept = events

    def __enter__(self):
        """Give the house."""
        return self._house

    def __exit__(self, kind, value, trace):
        self._house._events = self._kept


class House:
    """A run of a program, and the events that led it so far: all it tells is told from them."""

    MOST = 40

    def __init__(self, program, *, careful="off"):
        need(is_program(program), "program")
        need(careful in SWITCHES, "careful")
        self._program = program
        self._careful = careful
        self._events = ()
        self._started = 0
        self._finished = 0

    @property
    def program_now(self):
        """The program."""
        return self._program

    @property
    def run_now(self):
        """The run, a tuple of steps."""
        return parts_of(self._events, "step")

    @property
    def careful_now(self):
        """Whether steps with which a new harm is shown are refused: on or off."""
        return careful_behind(self._careful, self._events)

    @careful_now.setter
    def careful_now(self, value):
        self._lead(("careful", value))

    @property
    def tree_now(self):
        """The tuple of the rows of the processes behind the run."""
        return tree_after(self._program, self.run_now)

    @property
    def next_now(self):
        """The set of the steps that are possible behind the run."""
        return next_steps(self._program, self.run_now)

    @property
    def waiting_now(self):
        """The set of the processes that wait at a read."""
        return waiting_in(self._program, self.run_now)

    @property
    def ways_now(self):
        """The set of the ways in which the run hangs."""
        return ways_at_end(self._program, self.run_now)

    @property
    def harms_now(self):
        """The set of the harms that the run shows."""
        return harms_shown(self._program, self.run_now)

    @property
    def shown_now(self):
        """The set of the pairs (how many steps the shortest beginning has that shows it, harm)."""
        return ascending([(first, harm) for harm, first in firsts_of(self._program, self.run_now).items()])

    def happen(self, event):
        """Apply the event, and return how many steps the run has then."""
        return self._lead(event)

    def do_step(self, step):
        """Do the step, and return how many steps the run has then."""
        return self._lead(("step", step))

    def set_careful(self, word):
        """Refuse from now on steps with which a new harm is shown, or let them: on or off."""
        return self._lead(("careful", word))

    def mark(self, name):
        """Give the name to this moment."""
        return self._lead(("mark", name))

    def __iadd__(self, other):
        """Apply the event."""
        self._lead(other)
        return self

    def barred(self, event):
        """Return the reason for which the event is refused, or None."""
        return reason_against(self._program, self._careful, self._events, event, self.MOST)

    def tried(self, *events):
        """Return the run behind these events, too; nothing changes."""
        behind = self._events
        for event in events:
            behind = self._with(behind, event)
        return parts_of(behind, "step")

    def trial(self):
        """Return what takes the house, at the end of a with, back to what it is now."""
        return Trial(self, self._events)

    def undo(self):
        """Take back the last event, and return it."""
        self._started = self._started + 1
        try:
            if len(self._events) == 0:
                raise NothingToUndo(0)
            event = self._events[-1]
            self._events = self._events[:-1]
        finally:
            self._finished = self._started
        return event

    def do_all(self, *events, keep=False):
        """Apply the events in order, and return how many they are; what came before a refused one stays if keep."""
        self._started = self._started + 1
        try:
            need(isinstance(keep, bool), "keep")
            self._lead_through(events, keep)
        finally:
            self._finished = self._started
        return len(events)

    def counts(self):
        """Return the pair of how many operations were started and finished."""
        return (self._started, self._finished)

    def ways_left(self):
        """Return the set of the ways in which runs hang that begin with this one."""
        return ways_left_behind(self._program, self.run_now)

    def holders(self, end):
        """Return the set of the processes that hold the end."""
        return holders_in(self._program, self.run_now, end)

    def born_since(self, name):
        """Return the set of the processes that were born behind the moment of this name."""
        moments = [k for k, event in enumerate(self._events) if event == ("mark", name)]
        need(len(moments) == 1, "name")
        then = tree_after(self._program, parts_of(self._events[:moments[0]], "step"))
        return tuple(range(len(then), len(self.tree_now)))

    def tally(self):
        """Return the set of the pairs of a word and how many steps of the run have it."""
        words = [word for _, word, _ in self.run_now]
        return ascending([(word, words.count(word)) for word in words])

    def table(self):
        """Return a list with a string for each process, in order."""
        return run_picture(self._program, self.run_now)

    def story(self):
        """Return how the house began, and all events that were not undone."""
        return (("house", self._program, self._careful),) + self._events

    def __getitem__(self, at):
        """Return the row of this process."""
        need(at in self, "process")
        return self.tree_now[at]

    def __contains__(self, x):
        """Return whether any value is the number of a process that was born."""
        return is_number(x) and x < len(self.tree_now)

    def __len__(self):
        """Return how many steps the run has."""
        return len(self.run_now)

    def __iter__(self):
        raise TypeError("a house is not iterated over")

    def __eq__(self, other):
        """Return whether any value is a House with an equal story."""
        return (isinstance(other, House) and self._program == other._program
                and self._careful == other._careful and self._events == other._events)

    @classmethod
    def led(cls, program, careful, events):
        """Return the house behind these events, which has counted nothing."""
        house = cls(program, careful=careful)
        for event in events:
            house._events = house._with(house._events, event)
        return house

    def _lead(self, event):
        self._started = self._started + 1
        try:
            self._events = self._with(self._events, event)
        finally:
            self._finished = self._started
        return len(self.run_now)

    def _lead_through(self, events, keep):
        behind = self._events
        for done, event in enumerate(events):
            try:
                behind = self._with(behind, event)
            except InvalidEvent as e:
                if keep:
                    self._events = behind
                raise Broken(done) from e
        self._events = behind

    def _with(self, events, event):
        reason = reason_against(self._program, self._careful, events, event, self.MOST)
        if reason is not None:
            raise InvalidEvent(event, reason)
        return events + (event,)
