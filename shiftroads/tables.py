"""Tables by which a machine reads rows, and whether it reads them soundly and can do with defaults."""

from shiftroads.conflicts import MOST_STATES, are_ways, check_token, is_token
from shiftroads.errors import InvalidNumber, InvalidTable
from shiftroads.grammars import check_grammar, check_nonterminal, nonterminals_of
from shiftroads.moments import ACCEPT
from shiftroads.passages import Passages
from shiftroads.tablerows import backs_of, comings_of, default_rules, having_gotos, reductions_of
from shiftroads.values import is_ascending, is_index, is_tuple

REFUSE = ("refuse",)


def is_table(grammar, value):
    """Tell whether any value is a table of a grammar."""
    check_grammar(grammar)
    if not is_tuple(value, 2, 2) or not is_tuple(value[0], 1, MOST_STATES):
        return False
    count = len(value[0])
    if not is_tuple(value[1], count, count):
        return False
    names = {name: True for name in nonterminals_of(grammar)}
    orders = {token: order for order, token in enumerate(grammar[0] + (None,))}
    if not all(are_entries(grammar, orders, count, row) for row in value[0]):
        return False
    return all(are_ways(names, count, row) for row in value[1])


def are_entries(grammar, orders, count, value):
    """Tell whether a value is an ascending tuple of entries with unlike tokens, for so many states."""
    if not is_tuple(value, 0, len(orders)):
        return False
    for entry in value:
        if not is_tuple(entry, 2, 2) or not is_token(grammar, entry[0]):
            return False
        if not is_deed_for(grammar, count, entry[0], entry[1]):
            return False
    return is_ascending([orders[token] for token, _ in value])


def is_deed_for(grammar, count, token, value):
    """Tell whether a value is a deed that a table with so many states may have for a token."""
    if is_tuple(value, 1, 1):
        return value == REFUSE or (value == ACCEPT and token is None)
    if not is_tuple(value, 2, 2):
        return False
    if value[0] == "shift":
        return token is not None and is_index(value[1], count)
    return value[0] == "reduce" and is_index(value[1], len(grammar[2]))


def table_of(grammar, ways, rows):
    """Return the table with some rows as actions and the ways by nonterminals as gotos."""
    check_grammar(grammar)
    if not isinstance(ways, tuple) or not all(are_pairs(row) for row in ways):
        raise InvalidTable("no tuple of tuples of pairs")
    names = nonterminals_of(grammar)
    table = (rows, tuple([tuple([pair for pair in row if pair[0] in names]) for row in ways]))
    check_table(grammar, table)
    return table


def are_pairs(value):
    """Tell whether a value is a tuple of pairs."""
    return isinstance(value, tuple) and all(is_tuple(pair, 2, 2) for pair in value)


def deed_of(grammar, table, state, token):
    """Return the deed in a state for a token, or None."""
    check_grammar(grammar)
    check_table(grammar, table)
    check_state_of(len(table[0]), state)
    check_token(grammar, token)
    return worth_in(table[0][state], token)


def goto_of(grammar, table, state, nonterminal):
    """Return the state to which a state leads by a nonterminal, or None."""
    check_grammar(grammar)
    check_table(grammar, table)
    check_state_of(len(table[0]), state)
    check_nonterminal(grammar, nonterminal)
    return worth_in(table[1][state], nonterminal)


def worth_in(row, key):
    """Return what stands beside a key in a row of pairs, or None."""
    for one, worth in row:
        if one == key:
            return worth
    return None


def is_sound(grammar, table):
    """Tell whether a table is sound."""
    check_grammar(grammar)
    check_table(grammar, table)
    comings = comings_of(table)
    if comings[0] or not all(len({symbol for symbol, _ in pairs}) <= 1 for pairs in comings):
        return False
    return are_accepts_sound(grammar, table, comings) and are_reductions_sound(grammar, table, comings)


def are_accepts_sound(grammar, table, comings):
    """Tell whether states with accept are led to by the start from state 0 alone, and are not state 0."""
    for state, row in enumerate(table[0]):
        if (None, ACCEPT) in row and (state == 0 or not all(pair == (grammar[1], 0) for pair in comings[state])):
            return False
    return True


def are_reductions_sound(grammar, table, comings):
    """Tell whether all reductions are sound, each state being led to by at most one symbol."""
    backs = backs_of(comings)
    having = having_gotos(table)
    led = {}
    for state, pairs in enumerate(comings):
        for symbol, _ in pairs[:1]:
            led[symbol] = led.get(symbol, 0) | 1 << state
    odd = {}
    for symbol in led:
        odd[symbol] = sum([led[other] for other in led if other != symbol])
    all_led = sum(list(led.values()))
    for state, row in enumerate(table[0]):
        for rule in reductions_of(row):
            left, right = grammar[2][rule]
            if backs[len(right)][state] & ~having.get(left, 0):
                return False
            for steps, symbol in enumerate(right[::-1]):
                # State 0 may not come, nor a state that another symbol leads to.
                if backs[steps][state] & (1 | odd.get(symbol, all_led)):
                    return False
    return True


def is_full(grammar, table):
    """Tell whether a table is full."""
    check_grammar(grammar)
    check_table(grammar, table)
    passages = Passages(grammar, table)
    return not any(passages.any_open(token) for token in grammar[0] + (None,))


def with_defaults(grammar, table):
    """Return the table with defaults: actions, gotos, and the default of each state."""
    check_grammar(grammar)
    check_table(grammar, table)
    defaults = tuple(default_rules(table))
    rows = []
    for row, default in zip(table[0], defaults):
        rows.append(tuple([entry for entry in row if entry[1] != ("reduce", default)]))
    return (tuple(rows), table[1], defaults)


def check_table(grammar, table):
    """Raise InvalidTable for what is no table of a grammar."""
    if not is_table(grammar, table):
        raise InvalidTable("no table of the grammar")


def check_state_of(count, state):
    """Raise InvalidNumber for what is no index of one of so many states."""
    if not is_index(state, count):
        raise InvalidNumber("no index of a state")
