"""What the rows of a table say, as dicts and as bits of states, and the defaults of its states."""

from shiftroads.grammars import LONGEST_RIGHT


def deeds_by_state(table):
    """Return the list, for each state, of a dict from its tokens to its deeds."""
    return [{token: deed for token, deed in row} for row in table[0]]


def gotos_by_state(table):
    """Return the list, for each state, of a dict from its nonterminals to the states to which they lead."""
    return [{name: target for name, target in row} for row in table[1]]


def reductions_of(row):
    """Return a dict from the rules by which the entries of a row reduce to how many of them do."""
    counts = {}
    for _, deed in row:
        if deed[0] == "reduce":
            counts[deed[1]] = counts.get(deed[1], 0) + 1
    return counts


def default_rules(table):
    """Return the list of the defaults of all states, -1 for a state without one."""
    defaults = []
    for row in table[0]:
        counts = reductions_of(row)
        most = max(counts.values(), default=0)
        defaults.append(min([rule for rule in counts if counts[rule] == most], default=-1))
    return defaults


def filled_deeds(grammar, table):
    """Return the list, for each state, of a dict from tokens to deeds of the machine with defaults."""
    filled = deeds_by_state(table)
    for deeds, default in zip(filled, default_rules(table)):
        if default != -1:
            for token in grammar[0] + (None,):
                deeds.setdefault(token, ("reduce", default))
    return filled


def comings_of(table):
    """Return the list, for each state, of the pairs of a symbol and of a state that leads to it by this."""
    comings = [[] for _ in table[0]]
    for state, (row, gotos) in enumerate(zip(table[0], table[1])):
        for token, deed in row:
            if deed[0] == "shift":
                comings[deed[1]].append((token, state))
        for name, target in gotos:
            comings[target].append((name, state))
    return comings


def backs_of(comings):
    """Return, for each number of steps from 0 to 8, the list of the states, as bits, at which ways back begin."""
    last = [1 << state for state in range(len(comings))]
    backs = [last]
    for _ in range(LONGEST_RIGHT):
        row = []
        for pairs in comings:
            bits = 0
            for _, state in pairs:
                bits = bits | last[state]
            row.append(bits)
        last = row
        backs.append(last)
    return backs


def having_gotos(table):
    """Return a dict from nonterminals to the states, as bits, that have a goto for them."""
    having = {}
    for state, row in enumerate(table[1]):
        for name, _ in row:
            having[name] = having.get(name, 0) | 1 << state
    return having
