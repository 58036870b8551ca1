"""The canonical states of a grammar, the ways between them, and what is valid for a left context."""

from shiftroads.automata import state_along
from shiftroads.errors import TooMany
from shiftroads.follows import end_bit, lot_of, rests_of
from shiftroads.grammars import check_grammar, check_symbols

MOST_STATES = 2000


def canonical_states(grammar):
    """Return the list of the canonical states."""
    check_grammar(grammar)
    states, _ = canonical_bits(grammar)
    unlike = sorted({bits for state in states for bits in state.values()})
    lots = {bits: lot_of(grammar, bits) for bits in unlike}
    return [tuple([(rule, place, lots[state[rule, place]]) for rule, place in sorted(state)]) for state in states]


def canonical_ways(grammar):
    """Return the list, for each canonical state, of the ascending tuple of its ways."""
    check_grammar(grammar)
    _, ways = canonical_bits(grammar)
    return ways


def valid_lots(grammar, context):
    """Return the canonical state to which a left context leads, or () if it leads to none."""
    check_grammar(grammar)
    check_symbols(grammar, context)
    states, ways = canonical_bits(grammar)
    number = state_along(ways, context)
    if number is None:
        return ()
    state = states[number]
    return tuple([(rule, place, lot_of(grammar, state[rule, place])) for rule, place in sorted(state)])


def canonical_bits(grammar):
    """Return the list of the canonical states and the list of the tuples of their ways.

    A state is here a dict from its items (rule, place) to their lots, as bits.
    """
    rests = rests_of(grammar)
    begins = {symbol: begins_of(grammar, symbol) for symbol, _, _ in rests.values()}
    states = [closed_state(rests, begins, ((-1, 0, end_bit(grammar)),))]
    numbers = {}
    ways = []
    while len(ways) < len(states):
        moves = moves_from(rests, states[len(ways)])
        found = []
        for symbol in sorted(moves):
            # The items that are not at their rule's beginning, with their lots, tell the state.
            kernel = tuple(sorted(moves[symbol]))
            if kernel not in numbers:
                numbers[kernel] = len(states)
                states.append(closed_state(rests, begins, kernel))
            found.append((symbol, numbers[kernel]))
        if len(states) > MOST_STATES:
            raise TooMany(MOST_STATES)
        ways.append(tuple(found))
    return states, ways


def begins_of(grammar, symbol):
    """Return the list of the items at the beginnings of the rules of a symbol."""
    return [(rule, 0) for rule, (left, _) in enumerate(grammar[2]) if left == symbol]


def closed_state(rests, begins, kernel):
    """Return the closed state of some items (rule, place, bits)."""
    state = {(rule, place): bits for rule, place, bits in kernel}
    waiting = list(state)
    while waiting:
        item = waiting.pop()
        if item not in rests:
            continue
        symbol, bits, empty = rests[item]
        if empty:
            bits = bits | state[item]
        for begin in begins[symbol]:
            if begin not in state or state[begin] | bits != state[begin]:
                state[begin] = state.get(begin, 0) | bits
                waiting.append(begin)
    return state


def moves_from(rests, state):
    """Return a dict from each symbol behind items of a state to the list of these items, moved, with their bits."""
    moves = {}
    for rule, place in state:
        if (rule, place) in rests:
            symbol = rests[rule, place][0]
            moves.setdefault(symbol, []).append((rule, place + 1, state[rule, place]))
    return moves
