"""Reading of instructions and programs that are written as texts."""

from keptends.errors import InvalidText
from keptends.kinds import WORDS, is_number
from keptends.textlines import check_words, numbers_of, words_of
from keptends.usable import need

PARTS = {
    "begin": ("hold", "hold"),
    "role": ("name",),
    "aside": ("birth", "name"),
    "go": ("targets",),
    "copy": ("name", "number"),
    "start": ("name", "number"),
    "mark": ("end", "number"),
    "close": ("end", "number"),
    "read": ("number",),
    "write": ("number",),
    "wait": ("number",),
    "stay": (),
    "end": (),
}


def read_instruction(text, *, line=0):
    """Return the instruction that the text writes, or raise InvalidText with the line."""
    need(isinstance(text, str), "text")
    need(is_number(line), "line")
    return _row_of(words_of(text), WORDS, line)


def read_program(text):
    """Return the pair of a begin and roles by form that the text writes."""
    need(isinstance(text, str), "text")
    return program_in(text.split("\n"), 0)


def program_in(lines, first):
    """Return the pair that these lines write, the first of which has this index."""
    rows = [("",)]
    for line, written in enumerate(lines):
        words = words_of(written)
        before = rows[-1]
        if before[0] == "aside" and words[0] == "aside":
            _check_ascends(words, before[1:], first + line)
        rows.append(_row_of(words, _words_behind(before[0]), first + line))
    if rows[-1][0] in ("", "begin", "role"):
        raise InvalidText(first + len(lines), 0)
    return (rows[1][1:], _roles_of(rows[2:]))


def _words_behind(word):
    if word == "":
        return ("begin",)
    if word == "begin":
        return ("role",)
    if word == "role":
        return WORDS
    if word == "aside":
        return ("aside", "role")
    return WORDS + ("aside", "role")


def _row_of(words, firsts, line):
    word = words[0]
    if word not in firsts:
        raise InvalidText(line, 0)
    check_words(words, 1, PARTS[word], line)
    values = [_value_of(part, written) for part, written in zip(PARTS[word], words[1:])]
    return (word,) + tuple(values)


def _value_of(part, word):
    if part == "number":
        return int(word)
    if part == "targets":
        return numbers_of(word)
    return word


def _check_ascends(words, before, line):
    # An aside that is too small is told at the first word that makes it so,
    # even if words behind it are missing; so this comes ahead of check_words.
    if len(words) > 1 and words[1] < before[0]:
        raise InvalidText(line, 1)
    if len(words) > 2 and words[1] == before[0] and words[2] <= before[1]:
        raise InvalidText(line, 2)


def _roles_of(rows):
    begins = [k for k, row in enumerate(rows) if row[0] == "role"]
    ends = begins[1:] + [len(rows)]
    return tuple([_role_of(rows[begin:end]) for begin, end in zip(begins, ends)])


def _role_of(rows):
    places = tuple([row for row in rows[1:] if row[0] != "aside"])
    asides = tuple([row[1:] for row in rows if row[0] == "aside"])
    return (rows[0][1], places, asides)
