"""What several tests ask of functions and their errors."""

import copy
import unittest


class Case(unittest.TestCase):
    """A test case that asks for errors with just these fields."""

    def assert_error(self, error, fields, function, *args, **named):
        """The call raises just this error, with just these fields."""
        with self.assertRaises(error) as told:
            function(*args, **named)
        self.assertIs(type(told.exception), error)
        # repr tells True from 1, and a tuple from a list.
        self.assertEqual(repr(vars(told.exception)), repr(fields), (function, args, named))

    def assert_same(self, found, wanted, about=None):
        """Both are equal and of the same kinds throughout."""
        self.assertEqual(repr(found), repr(wanted), about)

    def assert_order(self, error, function, good, bad, keywords=()):
        """NotUsable is raised for the first wrong parameter, in the order of good.

        good is a dict of values that can be used, bad one of lists of values
        that cannot; keywords are the parameters that are passed by name only.
        """
        names = list(good)
        self.assertEqual(outcome(function, good, keywords)[0], "value", (function, good))
        for k, first in enumerate(names):
            for odd in bad.get(first, ()):
                self._assert_refused(error, function, {**good, first: odd}, first, keywords)
                for second in names[k + 1:]:
                    for other in bad.get(second, ())[:3]:
                        self._assert_refused(error, function, {**good, first: odd, second: other}, first, keywords)

    def _assert_refused(self, error, function, values, word, keywords):
        kept = copy.deepcopy(values)
        args = [value for name, value in values.items() if name not in keywords]
        named = {name: value for name, value in values.items() if name in keywords}
        self.assert_error(error, {"word": word, "at": -1}, function, *args, **named)
        self.assert_error(error, {"word": word, "at": -1}, function, **values)
        self.assert_same(values, kept)


def outcome(function, values, keywords=()):
    """What a call returns or raises, which has to be the same by position and by name."""
    args = [value for name, value in values.items() if name not in keywords]
    named = {name: value for name, value in values.items() if name in keywords}
    found = [_outcome(function, args, named), _outcome(function, (), values)]
    assert repr(found[0]) == repr(found[1]), found
    return found[0]


def _outcome(function, args, named):
    try:
        return ("value", function(*args, **named))
    except ValueError as error:
        return (type(error).__name__, vars(error))


def raised(error, *fields):
    """The outcome of a call that raises an error of errors with such fields."""
    names = {"InvalidPaper": ("word", "at"), "NotUsable": ("word", "at"), "InvalidStep": ("step", "word"),
             "InvalidText": ("line", "field")}
    return (error, dict(zip(names[error], fields)))
