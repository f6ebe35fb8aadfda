"""Early runs with the fewest processes that come to what is asked of process 0 and all that comes of it.

A goal is what is to become of a process: a pair (key, code), by a table of the
least numbers; other goals may be named in any way. The plan of a goal is the
list of its steps, triples (word, number, goal of the child that is born or None).
"""

from keptends.fatecodes import codes_in
from keptends.fatetables import first_key
from keptends.follows import late_costs, mask_at
from keptends.leastsums import cost_at, legs_of
from keptends.lookups import roles_by_name


def run_to(program, aspect, code, table):
    """Return a run behind which process 0 and its line have come to this code, by the table of least numbers."""
    goal = (first_key(program), code)
    return woven(all_plans(program, aspect, table, {}, [goal]), goal)[0]


def plan_along(legs, state):
    """Return the plan by which a process comes to the state."""
    leg = legs[state][1]
    plan = []
    while leg is not None:
        before, (word, number, child, _), code = leg
        plan.append((word, number, None if child is None else (child, code)))
        leg = legs[before][1]
    return plan[::-1]


def all_plans(program, aspect, table, plans, goals):
    """Return a dict of these plans, and of those of these goals and of all that either lead to."""
    roles = roles_by_name(program)
    late = late_costs(aspect, roles)
    found = {}
    ahead = list(goals)
    for goal, plan in plans.items():
        found[goal] = plan
        ahead.extend(_goals_in(plan))
    while len(ahead) > 0:
        goal = ahead.pop()
        if goal not in found:
            key, code = goal
            legs = legs_of(roles, key, table)
            found[goal] = plan_along(legs, _state_before(aspect, roles[key[0]], legs, code, late))
            ahead.extend([other for other in _goals_in(found[goal]) if other not in found])
    return found


def woven(plans, first):
    """Return the run in which process 0 has the goal first, and the list of the goals of all processes.

    A child does all of its steps first: they are early, so they hinder nobody,
    and a wait finds all ended that has to be.
    """
    run = []
    goals = [first]
    # Processes, and how many steps of their plans are done.
    ahead = [(0, 0)]
    while len(ahead) > 0:
        process, done = ahead.pop()
        plan = plans[goals[process]]
        if done < len(plan):
            word, number, goal = plan[done]
            run.append((process, word, number))
            ahead.append((process, done + 1))
            if goal is not None:
                ahead.append((len(goals), 0))
                goals.append(goal)
    return (tuple(run), goals)


def _goals_in(plan):
    return [goal for _, _, goal in plan if goal is not None]


def _state_before(aspect, role, legs, code, late):
    # The state behind which the code follows, with the least number.
    best = None
    least = 0
    for state, (total, _) in legs.items():
        number = total + cost_at(role, state, late)
        if best is None or number < least:
            if code in codes_in(mask_at(aspect, role, state[0], 1 << state[1], late)):
                best = state
                least = number
    return best
