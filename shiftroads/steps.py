"""Steps that lead from a row to another one, and what they cost."""

from shiftroads.errors import InvalidCosts, InvalidSteps
from shiftroads.grammars import check_grammar
from shiftroads.values import is_integer, is_terminal_name, is_tuple

MOST_STEPS = 20000
MOST_COST = 1000


def steps_rows(steps):
    """Return the pair of the row from which steps lead and of the row to which they do."""
    check_steps(steps)
    before = tuple([step[1] for step in steps if step[0] != "put"])
    behind = tuple([step[-1] for step in steps if step[0] != "leave"])
    return (before, behind)


def steps_cost(grammar, costs, steps):
    """Return what steps cost."""
    check_grammar(grammar)
    check_costs(grammar, costs)
    check_steps(steps)
    terminals = {name: place for place, name in enumerate(grammar[0])}
    if not all(name in terminals for step in steps for name in step[1:]):
        raise InvalidSteps("steps with other tokens than those of the grammar")
    total = 0
    for step in steps:
        if step[0] == "put":
            total += costs[0][terminals[step[1]]]
        elif step[0] == "leave":
            total += costs[1][terminals[step[1]]]
        elif step[0] == "change":
            total += costs[2]
    return total


def is_step(value):
    """Tell whether a value is a step."""
    if not is_tuple(value, 2, 3) or not all(is_terminal_name(name) for name in value[1:]):
        return False
    if len(value) == 2:
        return value[0] in ("keep", "put", "leave")
    return value[0] == "change" and value[1] != value[2]


def is_cost(value):
    """Tell whether a value is an integer from 1 to 1000."""
    return is_integer(value) and 1 <= value <= MOST_COST


def are_costs(grammar, value):
    """Tell whether a value is a tuple with a cost for each terminal."""
    count = len(grammar[0])
    return is_tuple(value, count, count) and all(is_cost(cost) for cost in value)


def check_steps(steps):
    """Raise InvalidSteps for what is no tuple of steps."""
    if not is_tuple(steps, 0, MOST_STEPS) or not all(is_step(step) for step in steps):
        raise InvalidSteps("no tuple of steps")


def check_costs(grammar, costs):
    """Raise InvalidCosts for what is no costs."""
    if not is_tuple(costs, 3, 3) or not is_cost(costs[2]):
        raise InvalidCosts("no costs")
    check_put(grammar, costs[0])
    check_put(grammar, costs[1])


def check_put(grammar, put):
    """Raise InvalidCosts for what is no tuple with a cost for each terminal."""
    if not are_costs(grammar, put):
        raise InvalidCosts("no tuple with a cost for each terminal")
