"""Lines of texts as words: which words can stand where."""

from keptends.errors import InvalidText
from keptends.kinds import BIRTHS, ENDS, WORDS, is_name

DIGITS = "0123456789"
MOST_DIGITS = 60


def words_of(line):
    """Return the words of a line; the empty line is one empty word."""
    return line.split(" ")


def check_words(words, parts, line):
    """Raise InvalidText unless behind the first word there stand just these parts."""
    for k, part in enumerate(parts):
        # A missing word and one that cannot stand are told by the same field.
        if k + 1 >= len(words) or not _can_stand(part, words[k + 1]):
            raise InvalidText(line, k + 1)
    if len(words) > len(parts) + 1:
        raise InvalidText(line, len(parts) + 1)


def is_number_word(word):
    """Return whether the word writes a number: at most sixty digits, no leading zero."""
    if word == "" or len(word) > MOST_DIGITS or not all([digit in DIGITS for digit in word]):
        return False
    return word == "0" or word[0] != "0"


def numbers_of(word):
    """Return the numbers with commas between that a word of targets writes."""
    return tuple([int(number) for number in word.split(",")])


def _is_targets_word(word):
    if not all([is_number_word(number) for number in word.split(",")]):
        return False
    targets = numbers_of(word)
    return all([one < other for one, other in zip(targets, targets[1:])])


def _can_stand(part, word):
    if part == "number":
        return is_number_word(word)
    if part == "targets":
        return _is_targets_word(word)
    if part == "name":
        return is_name(word)
    if part == "end":
        return word in ENDS
    if part == "birth":
        return word in BIRTHS
    if part == "step":
        return word == "aside" or word in WORDS and word != "stay"
    # What remains is how process 0 holds an end at first.
    return word in ("open", "marked")
