"""Questions about the symbols and rules of a grammar."""

from shiftroads.firsts import empty_nonterminals, ladder_from
from shiftroads.grammars import check_grammar, check_nonterminal, nonterminals_of


def productive(grammar):
    """Return the ascending tuple of the nonterminals that are productive."""
    check_grammar(grammar)
    return tuple(sorted([grammar[2][rule][0] for rule in ladder_from(grammar, grammar[0])]))


def reached(grammar):
    """Return the ascending tuple of the symbols that are reached."""
    check_grammar(grammar)
    last_steps = spread(grammar, all_steps(grammar), grammar[1])
    return tuple(sorted(set([grammar[1]] + list(last_steps))))


def ringed(grammar):
    """Return the ascending tuple of the nonterminals that are in rings."""
    names = nonterminals_of(grammar)
    steps = bare_steps(grammar)
    return tuple([name for name in names if name in spread(grammar, steps, name)])


def left_corners(grammar, nonterminal):
    """Return the ascending tuple of the left corners of a nonterminal."""
    check_grammar(grammar)
    check_nonterminal(grammar, nonterminal)
    return tuple(sorted(spread(grammar, left_steps(grammar), nonterminal)))


def useless_rules(grammar):
    """Return the ascending tuple of the indices of useless rules."""
    check_grammar(grammar)
    useful = useful_rules(grammar)
    return tuple([rule for rule in range(len(grammar[2])) if rule not in useful])


def trimmed(grammar):
    """Return the trimmed grammar, or None if the start is not productive."""
    check_grammar(grammar)
    useful = useful_rules(grammar)
    if not useful:
        return None
    return (grammar[0], grammar[1], tuple([grammar[2][rule] for rule in useful]))


def useful_rules(grammar):
    """Return the ascending list of the indices of useful rules; it is empty if the start is not productive."""
    known = productive(grammar) + grammar[0]
    steps = []
    whole = []
    for rule, (_, right) in enumerate(grammar[2]):
        if all(symbol in known for symbol in right):
            whole.append(rule)
            steps.extend([(rule, place) for place in range(len(right))])
    last_steps = spread(grammar, steps, grammar[1])
    return [rule for rule in whole if grammar[2][rule][0] == grammar[1] or grammar[2][rule][0] in last_steps]


def all_steps(grammar):
    """Return the list of all steps, each a pair (rule, place)."""
    return [(rule, place) for rule, (_, right) in enumerate(grammar[2]) for place in range(len(right))]


def left_steps(grammar):
    """Return the list of the left steps."""
    empties = empty_nonterminals(grammar)
    rules = grammar[2]
    return [
        (rule, place) for rule, place in all_steps(grammar)
        if all(symbol in empties for symbol in rules[rule][1][:place])
    ]


def bare_steps(grammar):
    """Return the list of the bare steps."""
    empties = empty_nonterminals(grammar)
    rules = grammar[2]
    return [
        (rule, place) for rule, place in left_steps(grammar)
        if all(symbol in empties for symbol in rules[rule][1][place + 1:])
    ]


def spread(grammar, steps, symbol):
    """Return a dict from each symbol to which one or more of some steps lead from a symbol.

    Its values are the last steps of ways of least length.
    """
    last_steps = {}
    waiting = [symbol]
    while waiting:
        found = []
        for rule, place in steps:
            left, right = grammar[2][rule]
            if left in waiting and right[place] not in last_steps:
                last_steps[right[place]] = (rule, place)
                found.append(right[place])
        waiting = found
    return last_steps
