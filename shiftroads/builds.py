"""Built automata of the four sorts."""

from shiftroads.automata import states_of, ways_of
from shiftroads.canonicals import canonical_bits
from shiftroads.errors import InvalidJoining, InvalidWord
from shiftroads.grammars import check_grammar
from shiftroads.joinings import far_joining, joins
from shiftroads.lookaheads import lalr_lots, looks_of, slr_lots, whole_rules

SORTS = ("slr", "lalr", "lr1", "joined")


def built(grammar, sort):
    """Return the built automaton of a sort."""
    check_grammar(grammar)
    if sort not in SORTS:
        raise InvalidWord("no sort")
    if sort == "slr":
        return (states_of(grammar), ways_of(grammar), tuple(slr_lots(grammar)))
    if sort == "lalr":
        return (states_of(grammar), ways_of(grammar), tuple(lalr_lots(grammar)))
    states, ways = canonical_bits(grammar)
    classes = far_joining(grammar) if sort == "joined" else tuple([(number,) for number in range(len(states))])
    return automaton_of(grammar, states, ways, classes)


def built_joined(grammar, joining):
    """Return the built automaton of the classes of a joining."""
    check_grammar(grammar)
    states, ways = canonical_bits(grammar)
    if not joins(grammar, states, ways, joining):
        raise InvalidJoining("no joining of the canonical states")
    return automaton_of(grammar, states, ways, joining)


def automaton_of(grammar, states, ways, classes):
    """Return the built automaton of some classes of canonical states."""
    places = {number: place for place, numbers in enumerate(classes) for number in numbers}
    cores = []
    leads = []
    looks = []
    for numbers in classes:
        core = tuple(sorted(states[numbers[0]]))
        rules = whole_rules(grammar, core)
        bits = []
        for rule in rules:
            item = (rule, 1 if rule == -1 else len(grammar[2][rule][1]))
            bits.append(bits_of_all(states, numbers, item))
        cores.append(core)
        leads.append(tuple([(symbol, places[target]) for symbol, target in ways[numbers[0]]]))
        looks.append(looks_of(grammar, rules, bits))
    return (tuple(cores), tuple(leads), tuple(looks))


def bits_of_all(states, numbers, item):
    """Return the bits that an item has in any of some states."""
    bits = 0
    for number in numbers:
        bits = bits | states[number][item]
    return bits
