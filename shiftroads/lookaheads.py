"""The lots of tokens for which the whole items of LR(0) states may be ended: SLR and LALR."""

from shiftroads.automata import states_and_ways
from shiftroads.canonicals import canonical_bits
from shiftroads.follows import end_bit, follow_bits, lot_of
from shiftroads.grammars import check_grammar
from shiftroads.items import symbol_behind


def slr_lots(grammar):
    """Return the list, for each LR(0) state, of the ascending tuple of its pairs (rule, SLR lot)."""
    check_grammar(grammar)
    states, _ = states_and_ways(grammar)
    follows = follow_bits(grammar)
    found = []
    for state in states:
        rules = whole_rules(grammar, state)
        bits = [end_bit(grammar) if rule == -1 else follows[grammar[2][rule][0]] for rule in rules]
        found.append(looks_of(grammar, rules, bits))
    return found


def lalr_lots(grammar):
    """Return the list, for each LR(0) state, of the ascending tuple of its pairs (rule, LALR lot)."""
    check_grammar(grammar)
    states, _ = states_and_ways(grammar)
    canonicals, _ = canonical_bits(grammar)
    sums = {}
    for canonical in canonicals:
        core = tuple(sorted(canonical))
        known = sums.get(core, {})
        sums[core] = {item: canonical[item] | known.get(item, 0) for item in core}
    found = []
    for state in states:
        rules = whole_rules(grammar, state)
        bits = [sums[state][item] for item in state if symbol_behind(grammar, item) is None]
        found.append(looks_of(grammar, rules, bits))
    return found


def whole_rules(grammar, state):
    """Return the list of the rules of the whole items of a state."""
    return [item[0] for item in state if symbol_behind(grammar, item) is None]


def looks_of(grammar, rules, bits):
    """Return the tuple of the pairs of a rule and of its lot, whose tokens are told as bits."""
    return tuple([(rule, lot_of(grammar, lot)) for rule, lot in zip(rules, bits)])
