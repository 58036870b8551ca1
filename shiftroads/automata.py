"""The states of a grammar's items, the ways between them, and the contexts that lead to them."""

from shiftroads.errors import InvalidNumber, TooMany
from shiftroads.grammars import check_grammar, check_symbols
from shiftroads.items import advanced, check_item, closed_items, symbol_behind
from shiftroads.values import is_index

MOST_STATES = 400


def states_of(grammar):
    """Return the tuple of all states in the order of their numbers."""
    check_grammar(grammar)
    states, _ = states_and_ways(grammar)
    return tuple(states)


def ways_of(grammar):
    """Return the tuple, for each state, of the ascending tuple of its ways."""
    check_grammar(grammar)
    _, ways = states_and_ways(grammar)
    return tuple(ways)


def state_by(grammar, context):
    """Return the number of the state to which a context leads, or None."""
    check_grammar(grammar)
    check_symbols(grammar, context)
    _, ways = states_and_ways(grammar)
    return state_along(ways, context)


def valid_items(grammar, context):
    """Return the ascending tuple of the items that are valid for a context."""
    check_grammar(grammar)
    check_symbols(grammar, context)
    states, ways = states_and_ways(grammar)
    state = state_along(ways, context)
    return () if state is None else states[state]


def spine_for(grammar, context, item):
    """Return a spine with which an item is valid for a context, or None if it is not."""
    check_grammar(grammar)
    check_symbols(grammar, context)
    check_item(grammar, item)
    states, ways = states_and_ways(grammar)
    state = state_along(ways, context)
    if state is None or item not in states[state]:
        return None
    rule, place = item
    if rule == -1:
        return (item,)
    comings = comings_along(grammar, context)
    node = (len(context) - place, grammar[2][rule][0])
    spine = [item]
    while node is not None:
        node, ahead = comings[node]
        spine.append(ahead)
    return tuple(spine[::-1])


def least_context(grammar, state):
    """Return the least context that leads to a state."""
    check_grammar(grammar)
    _, ways = states_and_ways(grammar)
    if not is_index(state, len(ways)):
        raise InvalidNumber("no number of a state")
    # States are numbered as they are found, so the first way to each one comes behind a least context.
    contexts = {0: ()}
    for number, pairs in enumerate(ways):
        for symbol, target in pairs:
            if target not in contexts:
                contexts[target] = contexts[number] + (symbol,)
    return contexts[state]


def states_and_ways(grammar):
    """Return the list of all states, and the list of the tuples of their ways."""
    states = [closed_items(grammar, ((-1, 0),))]
    numbers = {}
    ways = []
    while len(ways) < len(states):
        moves = advanced(grammar, states[len(ways)])
        found = []
        for symbol in sorted(moves):
            kernel = moves[symbol]
            # The items that are not at their rule's beginning tell the state.
            if kernel not in numbers:
                numbers[kernel] = len(states)
                states.append(closed_items(grammar, kernel))
            found.append((symbol, numbers[kernel]))
        if len(states) > MOST_STATES:
            raise TooMany(MOST_STATES)
        ways.append(tuple(found))
    return states, ways


def state_along(ways, symbols):
    """Return the state to which ways by some symbols lead from state 0, or None."""
    state = 0
    for symbol in symbols:
        targets = [target for name, target in ways[state] if name == symbol]
        if not targets:
            return None
        state = targets[0]
    return state


def comings_along(grammar, context):
    """Return a dict with the pairs (place of a context, symbol) to which spines lead.

    Such a spine leads by the context up to the place, and the symbol is behind its last item.
    The values are pairs of the pair that is one item earlier (None behind the first item) and of this last item.
    """
    waiting = [(0, grammar[1])]
    comings = {waiting[0]: (None, (-1, 0))}
    while waiting:
        node = waiting.pop()
        for item, place in items_along(grammar, context, node):
            behind = (place, symbol_behind(grammar, item))
            if behind not in comings:
                comings[behind] = (node, item)
                waiting.append(behind)
    return comings


def items_along(grammar, context, node):
    """Return the list of the items of a symbol's rules that go along a context from a place on, but for whole ones.

    Each one comes with the place in the context that is behind what is ahead of it.
    """
    begin, symbol = node
    found = []
    for rule, (left, right) in enumerate(grammar[2]):
        if left == symbol:
            for place in range(len(right)):
                if right[:place] == context[begin:begin + place]:
                    found.append(((rule, place), begin + place))
    return found
