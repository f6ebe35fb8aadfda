"""Stories of houses: what is one, and the house that it leads to."""

from keptends.houses import House
from keptends.housetexts import is_told
from keptends.programchecker import is_program
from keptends.usable import need


def is_story(thing):
    """Return whether any value tells how a house begins, and then of events by form."""
    return is_told(thing) and is_program(thing[0][1])


def replayed(story):
    """Return a new House behind the events of the story."""
    need(is_story(story), "story")
    _, program, careful = story[0]
    return House.led(program, careful, story[1:])
