"""A desk: a house that is led, and asked, by rows."""

from keptends.errors import InvalidRow, InvalidText
from keptends.houselogs import is_story, replayed
from keptends.housereadings import read_event, read_story
from keptends.houses import House
from keptends.housetexts import event_line
from keptends.kinds import ENDS, is_name
from keptends.runtexts import step_text
from keptends.usable import need


class Desk:
    """A house, and rows that are said to it."""

    def __init__(self, program):
        self._house = House(program)
        self._started = 0
        self._finished = 0

    def say(self, row):
        """Return the answer to the row."""
        self._started = self._started + 1
        try:
            need(isinstance(row, str), "row")
            answer = self._answer(row)
        finally:
            self._finished = self._started
        return answer

    def counts(self):
        """Return the pair of how many calls of say were started and finished."""
        return (self._started, self._finished)

    def _answer(self, row):
        event = _event_of(row)
        if event is not None:
            return str(self._house.happen(event))
        if row == "undo":
            return event_line(self._house.undo())
        house = _house_of(row)
        if house is not None:
            self._house = house
            return "ok"
        barred = _event_of(row[5:]) if row.startswith("bars ") else None
        if barred is not None:
            return _joined([self._house.barred(barred)], " ")
        return self._told(row)

    def _told(self, row):
        house = self._house
        if row == "story":
            return _joined([event_line(event) for event in house.story()[1:]], " / ")
        if row == "next":
            return _joined([step_text(step) for step in house.next_now], " / ")
        if row == "table":
            return _joined(house.table(), " / ")
        if row == "careful":
            return house.careful_now
        if row == "shown":
            return _joined([f"{first}@{harm}" for first, harm in house.shown_now], " ")
        if row == "tally":
            return _joined([f"{word}@{many}" for word, many in house.tally()], " ")
        return _joined([str(one) for one in self._set_told(row)], " ")

    def _set_told(self, row):
        house = self._house
        if row == "waiting":
            return house.waiting_now
        if row == "ways":
            return house.ways_now
        if row == "harms":
            return house.harms_now
        if row == "left":
            return house.ways_left()
        words = row.split(" ")
        if len(words) == 2 and words[0] == "holders" and words[1] in ENDS:
            return house.holders(words[1])
        if len(words) == 2 and words[0] == "born" and is_name(words[1]):
            return house.born_since(words[1])
        raise InvalidRow(row)


def _event_of(row):
    try:
        return read_event(row)
    except InvalidText:
        return None


def _house_of(row):
    # The house of a story without events that the row writes as lines, or None.
    try:
        story = read_story(row.split("\n"))
    except InvalidText:
        return None
    return replayed(story) if len(story) == 1 and is_story(story) else None


def _joined(words, between):
    told = [word for word in words if word is not None]
    return between.join(told) if len(told) > 0 else "-"
