"""Lines of texts as words: which words can stand where."""

from keptends.errors import InvalidText
from keptends.kinds import BIRTHS, ENDS, SWITCHES, WORDS, is_name

DIGITS = "0123456789"
MOST_DIGITS = 60


def words_of(line):
    """Return the words of a line; the empty line is one empty word."""
    return line.split(" ")


def check_words(words, first, parts, line):
    """Raise InvalidText unless from the word with the index first on there stand just these parts."""
    for k, part in enumerate(parts):
        # A missing word and one that cannot stand are told by the same field.
        if first + k >= len(words) or not _can_stand(part, words[first + k]):
            raise InvalidText(line, first + k)
    if len(words) > first + len(parts):
        raise InvalidText(line, first + len(parts))


def _is_number_word(word):
    """Return whether the word writes a number: at most sixty digits, no leading zero."""
    if word == "" or len(word) > MOST_DIGITS or not all([digit in DIGITS for digit in word]):
        return False
    return word == "0" or word[0] != "0"


def numbers_of(word):
    """Return the numbers with commas between that a word of targets writes."""
    return tuple([int(number) for number in word.split(",")])


def _is_targets_word(word):
    if not all([_is_number_word(number) for number in word.split(",")]):
        return False
    targets = numbers_of(word)
    return all([one < other for one, other in zip(targets, targets[1:])])


def _can_stand(part, word):
    if part == "number":
        return _is_number_word(word)
    if part == "targets":
        return _is_targets_word(word)
    if part == "name":
        return is_name(word)
    if part == "end":
        return word in ENDS
    if part == "birth":
        return word in BIRTHS
    if part == "step":
        return word == "aside" or word in WORDS and word != "stay"
    if part == "switch":
        return word in SWITCHES
    if part == "count":
        return _is_number_word(word) and word != "0"
    # What remains is how process 0 holds an end at first.
    return word in ("open", "marked")
