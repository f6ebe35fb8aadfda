"""Events of houses: what is one by form, why it is refused, and what there is behind them."""

from keptends.kinds import SWITCHES, is_name, is_step
from keptends.lookups import roles_by_name
from keptends.moments import step_fault, tree_of
from keptends.showings import firsts_of


def is_event(thing):
    """Return whether any value is an event by form."""
    if not isinstance(thing, tuple) or len(thing) != 2:
        return False
    word, part = thing
    if word == "step":
        return is_step(part)
    if word == "careful":
        return part in SWITCHES
    return word == "mark" and is_name(part)


def parts_of(events, word):
    """Return the tuple of what the events with this word are about, in order."""
    return tuple([part for each, part in events if each == word])


def careful_behind(careful, events):
    """Return the word that careful is behind the events, if it is this one at first."""
    words = parts_of(events, "careful")
    return words[-1] if len(words) > 0 else careful


def reason_against(program, careful, events, event, most):
    """Return the word that tells why any value is refused behind these events, or None.

    careful is the word at first, most how many events there can be.
    """
    if not is_event(event):
        return "shape"
    if len(events) >= most:
        return "full"
    word, part = event
    now = careful_behind(careful, events)
    if word == "step":
        return _reason_against_step(program, parts_of(events, "step"), part, now)
    if word == "careful":
        return "same" if part == now else None
    return "twice" if part in parts_of(events, "mark") else None


def _reason_against_step(program, run, step, careful):
    fault = step_fault(roles_by_name(program), tree_of(program, run), step)
    if fault is not None or careful == "off":
        return fault
    # Harms are never shown less, so a greater number of them means a new one.
    return "harm" if len(firsts_of(program, run + (step,))) > len(firsts_of(program, run)) else None
