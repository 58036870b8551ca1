"""Numbers given to the nodes of a tree by equations of its rules."""

from shiftroads.errors import InvalidScheme, InvalidTree, InvalidWorths
from shiftroads.grammars import check_grammar, check_nonterminal, nonterminals_of
from shiftroads.instances import Sheet, reads_in
from shiftroads.trees import is_tree, leaves_in
from shiftroads.values import is_index, is_integer, is_terminal_name, is_tuple

MOST_NAMES = 3
DEEPEST = 4
WORTHS = 4294967296
PARTS = {"add": 2, "sub": 2, "mul": 2, "less": 2, "if": 3}


def is_scheme(grammar, value):
    """Tell whether any value is a scheme of a grammar."""
    check_grammar(grammar)
    count = len(nonterminals_of(grammar))
    if not is_tuple(value, 2, 2) or not is_tuple(value[0], count, count):
        return False
    if not all(are_names(pair) for pair in value[0]):
        return False
    names = names_by(grammar, value)
    rules = grammar[2]
    if not is_tuple(value[1], len(rules), len(rules)):
        return False
    return all(are_equations(names, rule, row) for rule, row in zip(rules, value[1]))


def is_one_walk(grammar, scheme):
    """Tell whether a scheme is of one walk."""
    check_grammar(grammar)
    check_scheme(grammar, scheme)
    for row in scheme[1]:
        for (place, _), expression in row:
            if place > 0 and not all(other < place for other, _ in reads_in(expression)):
                return False
    return True


def worths_of(grammar, scheme, nonterminal, tree, leaves, downs):
    """Return the worths of all items of a tree, or a ring of instances."""
    check_grammar(grammar)
    check_scheme(grammar, scheme)
    check_nonterminal(grammar, nonterminal)
    if not is_tree(grammar, nonterminal, tree):
        raise InvalidTree("no tree of the nonterminal")
    check_worths(leaves, len(leaves_in(tree)))
    names = names_by(grammar, scheme)
    check_worths(downs, len(names[nonterminal][1]))
    sheet = Sheet(grammar[2], names, scheme[1], tree)
    sheet.give(leaves, downs)
    ring = sheet.first_ring()
    return ("worths", sheet.told()) if ring is None else ("ring", ring)


def names_by(grammar, scheme):
    """Return a dict from the nonterminals to the pairs of their ups and downs."""
    return {name: pair for name, pair in zip(nonterminals_of(grammar), scheme[0])}


def are_names(value):
    """Tell whether a value is a pair of tuples of at most three names each, all unlike."""
    if not is_tuple(value, 2, 2) or not all(is_tuple(part, 0, MOST_NAMES) for part in value):
        return False
    names = value[0] + value[1]
    if not all(is_terminal_name(name) and name != "worth" for name in names):
        return False
    return len(set(names)) == len(names)


def targets_of(names, rule):
    """Return the ascending list of the targets of a rule."""
    left, right = rule
    targets = [(0, name) for name in names[left][0]]
    for place, symbol in enumerate(right):
        if symbol in names:
            targets.extend([(place + 1, name) for name in names[symbol][1]])
    return sorted(targets)


def sources_of(names, rule):
    """Return a dict whose keys are what the expressions of a rule can read: pairs of a place and a name."""
    left, right = rule
    sources = {(0, name): True for name in names[left][1]}
    for place, symbol in enumerate(right):
        for name in names[symbol][0] if symbol in names else ("worth",):
            sources[place + 1, name] = True
    return sources


def are_equations(names, rule, value):
    """Tell whether a value is the tuple of the equations of a rule."""
    targets = targets_of(names, rule)
    if not is_tuple(value, len(targets), len(targets)):
        return False
    sources = sources_of(names, rule)
    for target, equation in zip(targets, value):
        if not is_tuple(equation, 2, 2) or not is_tuple(equation[0], 2, 2):
            return False
        if not is_integer(equation[0][0]) or equation[0] != target:
            return False
        if not is_expression(sources, equation[1], DEEPEST):
            return False
    return True


def is_expression(sources, value, depth):
    """Tell whether a value is an expression over some sources, nested at most so deep."""
    if not is_tuple(value, 2, 4) or not isinstance(value[0], str):
        return False
    if value[0] == "num":
        return len(value) == 2 and is_index(value[1], WORTHS)
    if value[0] == "of":
        if len(value) != 3 or not is_integer(value[1]) or not isinstance(value[2], str):
            return False
        return value[1:] in sources
    if value[0] not in PARTS or len(value) != PARTS[value[0]] + 1 or depth == 1:
        return False
    return all(is_expression(sources, part, depth - 1) for part in value[1:])


def check_scheme(grammar, scheme):
    """Raise InvalidScheme for what is no scheme of a grammar."""
    if not is_scheme(grammar, scheme):
        raise InvalidScheme("no scheme of the grammar")


def check_worths(worths, count):
    """Raise InvalidWorths for what is no tuple of so many worths."""
    if not is_tuple(worths, count, count) or not all(is_index(worth, WORTHS) for worth in worths):
        raise InvalidWorths("no tuple of worths")
