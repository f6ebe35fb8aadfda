"""Parts of programs."""

from keptends.kinds import WORDS
from keptends.lookups import births_of, has_place, names_of, role_of, roles_by_name, targets_of
from keptends.orders import ascending
from keptends.programchecker import is_program
from keptends.usable import need


def names_in(program):
    """Return the names of the roles, in their order."""
    need(is_program(program), "program")
    return names_of(program)


def role_in(program, name):
    """Return the role with this name."""
    need(is_program(program), "program")
    need(name in names_of(program), "name")
    return role_of(program, name)


def births_in(program, name):
    """Return the set of the pairs (word, name) of all births of the role."""
    need(is_program(program), "program")
    need(name in names_of(program), "name")
    return ascending(births_of(role_of(program, name)))


def role_names_born(program):
    """Return the set of the first role's name and of all names that births lead to from it."""
    need(is_program(program), "program")
    roles = roles_by_name(program)
    found = [program[1][0][0]]
    seen = {found[0]: True}
    done = 0
    while done < len(found):
        births = births_of(roles[found[done]])
        for birth in births:
            if birth[1] not in seen:
                seen[birth[1]] = True
                found.append(birth[1])
        done = done + 1
    return ascending(found)


def places_with(program, name, word):
    """Return the set of the places whose instruction begins with the word."""
    need(is_program(program), "program")
    need(name in names_of(program), "name")
    need(word in WORDS, "word")
    places = role_of(program, name)[1]
    return tuple([place for place, instruction in enumerate(places) if instruction[0] == word])


def targets_at(program, name, place):
    """Return the set of the targets of the instruction at the place."""
    need(is_program(program), "program")
    need(name in names_of(program), "name")
    need(has_place(program, name, place), "place")
    return targets_of(role_of(program, name)[1][place])
