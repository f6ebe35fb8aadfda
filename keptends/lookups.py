"""Looking into programs and roles that are known to be such."""

from keptends.kinds import BIRTHS, is_number


def names_of(program):
    """Return the names of the roles, in their order."""
    return tuple([role[0] for role in program[1]])


def index_of(program, name):
    """Return the index of the role with this name."""
    return names_of(program).index(name)


def role_of(program, name):
    """Return the role with this name."""
    return program[1][index_of(program, name)]


def roles_by_name(program):
    """Return a dict of the roles by their names."""
    return {role[0]: role for role in program[1]}


def targets_of(instruction):
    """Return the set of the targets of the instruction."""
    word = instruction[0]
    if word == "go":
        return instruction[1]
    if word in ("stay", "end"):
        return ()
    return (instruction[-1],)


def births_of(role):
    """Return a list of the pairs of word and name of all births, perhaps some twice."""
    births = [instruction[:2] for instruction in role[1] if instruction[0] in BIRTHS]
    return births + list(role[2])


def has_place(program, name, place):
    """Return whether any value is a place of the role with this name."""
    return is_number(place) and place < len(role_of(program, name)[1])
