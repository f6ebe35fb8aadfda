"""Reading of steps and runs that are written as texts."""

from keptends.errors import InvalidText
from keptends.textlines import check_words, is_number_word, words_of
from keptends.usable import need


def read_step(text):
    """Return the step that the text writes."""
    need(isinstance(text, str), "text")
    return _step_of(text, 0)


def read_run(text):
    """Return the tuple of steps that the text writes."""
    need(isinstance(text, str), "text")
    if text == "-":
        return ()
    return tuple([_step_of(written, line) for line, written in enumerate(text.split("\n"))])


def _step_of(written, line):
    words = words_of(written)
    if not is_number_word(words[0]):
        raise InvalidText(line, 0)
    has_number = len(words) > 1 and words[1] in ("go", "aside")
    check_words(words, ("step", "number") if has_number else ("step",), line)
    return (int(words[0]), words[1], int(words[2]) if has_number else -1)
