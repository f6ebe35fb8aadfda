"""Reading of steps and runs that are written as texts."""

from keptends.textlines import check_words, words_of
from keptends.usable import need


def read_step(text):
    """Return the step that the text writes."""
    need(isinstance(text, str), "text")
    return step_in(words_of(text), 0, 0)


def read_run(text):
    """Return the tuple of steps that the text writes."""
    need(isinstance(text, str), "text")
    if text == "-":
        return ()
    return tuple([step_in(words_of(written), 0, line) for line, written in enumerate(text.split("\n"))])


def step_in(words, first, line):
    """Return the step that the words of a line write, from the one with the index first on."""
    has_number = len(words) > first + 1 and words[first + 1] in ("go", "aside")
    check_words(words, first, ("number", "step", "number") if has_number else ("number", "step"), line)
    return (int(words[first]), words[first + 1], int(words[first + 2]) if has_number else -1)
