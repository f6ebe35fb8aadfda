"""All errors of the package: one base class, four families."""


class PipeError(ValueError):
    """The base class of all errors of the package."""


class PaperError(PipeError):
    """The family of what a checker does not accept."""


class ProgramError(PipeError):
    """The family of arguments and steps that cannot be used."""


class HouseError(PipeError):
    """The family of what a live house refuses."""


class TextError(PipeError):
    """The family of texts and rows that nothing writes."""


class InvalidPaper(PaperError):
    """A checker does not accept a value: the word tells why, at tells where."""

    def __init__(self, word, at):
        self.word = word
        self.at = at


class NotUsable(ProgramError):
    """An argument is not as stated: the word is the name of its parameter."""

    def __init__(self, word, at):
        self.word = word
        self.at = at


class InvalidStep(ProgramError):
    """A step is not possible behind a run: the word tells why."""

    def __init__(self, step, word):
        self.step = step
        self.word = word


class InvalidEvent(HouseError):
    """A house refuses an event."""

    def __init__(self, event, reason):
        self.event = event
        self.reason = reason


class NothingToUndo(HouseError):
    """A house has no event that it could take back."""

    def __init__(self, steps):
        self.steps = steps


class Broken(HouseError):
    """One of several events was refused, behind so many that were done."""

    def __init__(self, done):
        self.done = done


class InvalidText(TextError):
    """Nothing writes a text: line and field tell the first word that cannot stand."""

    def __init__(self, line, field):
        self.line = line
        self.field = field


class InvalidRow(TextError):
    """A desk does not know a row."""

    def __init__(self, row):
        self.row = row
