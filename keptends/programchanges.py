"""Changes of programs: each function returns the changed program."""

from keptends.kinds import BIRTHS, ENDS, is_asides, is_begin, is_instruction, is_name, is_number, is_role
from keptends.lookups import has_place, index_of, names_of, role_of
from keptends.orders import ascending
from keptends.programchecker import is_program, lets_program
from keptends.usable import need


def with_role(program, role, *, at=None):
    """Return the program with this role, too: at this index, or behind all."""
    need(is_program(program), "program")
    need(is_role(role) and role[0] not in names_of(program), "role")
    begin, roles = program
    need(at is None or is_number(at) and at <= len(roles), "at")
    index = len(roles) if at is None else at
    return _checked(begin, roles[:index] + (role,) + roles[index:])


def without_role(program, name):
    """Return the program without this role, which is not the only one."""
    need(is_program(program), "program")
    need(name in names_of(program) and len(program[1]) > 1, "name")
    begin, roles = program
    return _checked(begin, tuple([role for role in roles if role[0] != name]))


def with_instruction(program, name, place, instruction):
    """Return the program with the instruction at the place, instead of the one there."""
    need(is_program(program), "program")
    need(name in names_of(program), "name")
    need(has_place(program, name, place), "place")
    need(is_instruction(instruction), "instruction")
    _, places, asides = role_of(program, name)
    changed = places[:place] + (instruction,) + places[place + 1:]
    return _with_role_instead(program, name, (name, changed, asides))


def with_asides(program, name, asides):
    """Return the program in which the role has these asides."""
    need(is_program(program), "program")
    need(name in names_of(program), "name")
    need(is_asides(asides), "asides")
    return _with_role_instead(program, name, (name, role_of(program, name)[1], asides))


def with_begin(program, begin):
    """Return the program with this begin."""
    need(is_program(program), "program")
    need(is_begin(begin), "begin")
    return _checked(begin, program[1])


def with_births(program, word):
    """Return the program in which every birth, and every aside, is by the word."""
    need(is_program(program), "program")
    need(word in BIRTHS, "word")
    return _checked(program[0], tuple([_role_by(role, word) for role in program[1]]))


def renamed(program, old, new):
    """Return the program in which the role old is called new, everywhere."""
    need(is_program(program), "program")
    need(old in names_of(program), "old")
    need(is_name(new) and (new == old or new not in names_of(program)), "new")
    return _checked(program[0], tuple([_role_renamed(role, old, new) for role in program[1]]))


def put_in(program, name, place, instruction):
    """Return the program with an instruction (word, end) put in ahead of the place."""
    need(is_program(program), "program")
    need(name in names_of(program), "name")
    need(has_place(program, name, place), "place")
    need(_is_shutting(instruction), "instruction")
    _, places, asides = role_of(program, name)
    moved = tuple([_moved(other, place) for other in places])
    changed = moved[:place] + (instruction + (place + 1,),) + moved[place:]
    return _with_role_instead(program, name, (name, changed, asides))


def _checked(begin, roles):
    program = (begin, roles)
    lets_program(program)
    return program


def _with_role_instead(program, name, role):
    begin, roles = program
    index = index_of(program, name)
    return _checked(begin, roles[:index] + (role,) + roles[index + 1:])


def _role_by(role, word):
    name, places, asides = role
    changed = tuple([_instruction_by(instruction, word) for instruction in places])
    return (name, changed, ascending([(word, aside[1]) for aside in asides]))


def _instruction_by(instruction, word):
    if instruction[0] in BIRTHS:
        return (word,) + instruction[1:]
    return instruction


def _role_renamed(role, old, new):
    name, places, asides = role
    changed = tuple([_birth_renamed(instruction, old, new) for instruction in places])
    return (_name_now(name, old, new), changed, ascending([_birth_renamed(aside, old, new) for aside in asides]))


def _birth_renamed(birth, old, new):
    if birth[0] in BIRTHS:
        return (birth[0], _name_now(birth[1], old, new)) + birth[2:]
    return birth


def _name_now(name, old, new):
    return new if name == old else name


def _is_shutting(thing):
    if not isinstance(thing, tuple) or len(thing) != 2:
        return False
    return thing[0] in ("mark", "close") and thing[1] in ENDS


def _moved(instruction, place):
    word = instruction[0]
    if word == "go":
        return (word, tuple([_target_now(target, place) for target in instruction[1]]))
    if word in ("stay", "end"):
        return instruction
    return instruction[:-1] + (_target_now(instruction[-1], place),)


def _target_now(target, place):
    # What led to the place leads to what is put in there, so that its own
    # index does not change; only the places behind it are greater by 1.
    return target + 1 if target > place else target
