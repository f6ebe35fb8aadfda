"""Events by form (points 57 and 58)."""

import itertools
import unittest

from keptends.houseevents import is_event
from tests import houseoracle
from tests.checks import Case
from tests.housesamples import EVENTS, NO_EVENTS, STEPS
from tests.samples import ODD, variants


class Events(Case):
    def assert_event(self, thing):
        before = repr(thing)
        wanted = houseoracle.is_event(thing)
        self.assertIs(is_event(thing), wanted, thing)
        self.assertIs(is_event(thing=thing), wanted)
        self.assertEqual(repr(thing), before)
        return wanted

    def test_events(self):
        for event in EVENTS + STEPS:
            self.assertIs(self.assert_event(event), True)

    def test_other_values(self):
        for thing in NO_EVENTS + ODD + (b"", 1.5, {}, object):
            self.assertIs(self.assert_event(thing), False)

    def test_all_pairs(self):
        parts = ODD + ("on", "off", "ON", "step", (0, "copy", -1), (0, "go", 0), (0, "go", -1), (1, "stay", -1), ("on",))
        found = 0
        for word, part in itertools.product(("step", "careful", "mark", "Step", "", None, 0, ("step",)), parts):
            found += self.assert_event((word, part))
            self.assertIs(is_event([word, part]), False)
        self.assertGreater(found, 10)

    def test_one_change_at_any_depth(self):
        for event in EVENTS:
            for thing in variants(event, ODD + ("on", "off", "step", "mark", (0, "end", -1))):
                self.assert_event(thing)


if __name__ == "__main__":
    unittest.main()
