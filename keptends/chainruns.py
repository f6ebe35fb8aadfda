"""Early runs in which the elders of one process bear it, one after the other, and it comes to a position."""

from keptends.fatecodes import BOUND
from keptends.fatetables import first_key
from keptends.leastruns import all_plans, plan_along, woven
from keptends.leastsums import least_numbers, legs_along, legs_of
from keptends.lookups import roles_by_name
from keptends.paths import graph_from
from keptends.standings import links_along, without_waits


def chain_run(program, aspect, key, position, bound):
    """Return the run, and the number of the process with this key that comes to the position.

    By the aspect "w" no process holds w behind the run; and unless it is bound,
    all that came of the process can end, then.
    """
    table = least_numbers(program, first_key(program), aspect)
    chain = _chain_to(program, aspect, key)
    roles = roles_by_name(program)
    plans = {}
    for k, (parent, place, move) in enumerate(chain):
        plans[("chain", k)] = _bearing_plan(roles, aspect, table, parent, place, move, k)
    last = ("chain", len(chain))
    legs = legs_of(roles, key, table)
    ends = [state for state in legs if state[0] == position and (bound or state[1] != BOUND)]
    plans[last] = plan_along(legs, _cheapest(legs, ends))
    run, goals = woven(all_plans(program, aspect, table, plans, []), ("chain", 0))
    return (run, goals.index(last))


def _chain_to(program, aspect, key):
    # The links of all elders, process 0 first.
    links = links_along(program, aspect)
    chain = []
    link = links[key]
    while link is not None:
        chain.append(link)
        link = links[link[0]]
    return chain[::-1]


def _bearing_plan(roles, aspect, table, key, position, move, k):
    legs = legs_of(roles, key, table)
    before = plan_along(legs, _cheapest(legs, [state for state in legs if state[0] == position]))
    plan = before + [(move[0], move[1], ("chain", k + 1))]
    if aspect != "w":
        return plan
    # Now it lets go of w without a wait, since the child does not end.
    freed = legs_along(without_waits(graph_from(roles[key[0]], move[3])), move[3], table)
    return plan + plan_along(freed, _cheapest(freed, [state for state in freed if state[0][2] == "none"]))


def _cheapest(legs, states):
    best = states[0]
    for state in states:
        if legs[state][0] < legs[best][0]:
            best = state
    return best
