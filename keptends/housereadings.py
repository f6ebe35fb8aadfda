"""Reading of events and stories of houses that are written as lines."""

from keptends.errors import InvalidText
from keptends.programreadings import program_in
from keptends.runreadings import step_in
from keptends.textlines import check_words, words_of
from keptends.usable import need

PARTS = {"careful": "switch", "mark": "name"}


def read_event(text):
    """Return the event that the text writes."""
    need(isinstance(text, str), "text")
    return _event_in(text, 0)


def read_story(lines):
    """Return the story that the lines write; its program may be none."""
    need(_is_lines(lines), "lines")
    # An empty list is one empty line.
    words = words_of(lines[0] if len(lines) > 0 else "")
    if words[0] != "house":
        raise InvalidText(0, 0)
    check_words(words, 1, ("switch", "count"), 0)
    behind = 1 + int(words[2])
    program = program_in(lines[1:behind], 1)
    if len(lines) < behind:
        raise InvalidText(len(lines), 0)
    events = [_event_in(written, behind + k) for k, written in enumerate(lines[behind:])]
    return (("house", program, words[1]),) + tuple(events)


def _event_in(written, line):
    words = words_of(written)
    word = words[0]
    if word == "step":
        return (word, step_in(words, 1, line))
    if word not in PARTS:
        raise InvalidText(line, 0)
    check_words(words, 1, (PARTS[word],), line)
    return (word, words[1])


def _is_lines(thing):
    return isinstance(thing, list) and all([isinstance(line, str) and "\n" not in line for line in thing])
