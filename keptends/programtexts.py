"""Instructions and programs written as texts."""

from keptends.kinds import is_begin, is_instruction, is_role
from keptends.usable import need


def instruction_text(instruction):
    """Return the instruction, by form, as one line."""
    need(is_instruction(instruction), "instruction")
    return _instruction_line(instruction)


def program_text(program):
    """Return the pair of a begin and a nonempty tuple of roles by form as lines."""
    need(is_writable(program), "program")
    begin, roles = program
    lines = [_line_of(("begin",) + begin)]
    for role in roles:
        lines.extend(_role_lines(role))
    return "\n".join(lines)


def is_writable(thing):
    """Return whether any value is a pair of a begin and a nonempty tuple of roles by form."""
    if not isinstance(thing, tuple) or len(thing) != 2:
        return False
    begin, roles = thing
    if not is_begin(begin) or not isinstance(roles, tuple) or len(roles) == 0:
        return False
    return all([is_role(role) for role in roles])


def _role_lines(role):
    name, places, asides = role
    written = [_instruction_line(instruction) for instruction in places]
    return [_line_of(("role", name))] + written + [_line_of(("aside",) + aside) for aside in asides]


def _instruction_line(instruction):
    if instruction[0] == "go":
        return _line_of(("go", ",".join([str(target) for target in instruction[1]])))
    return _line_of(instruction)


def _line_of(words):
    return " ".join([str(word) for word in words])
