"""Grammars, their symbols and rows, and the checks of these as arguments."""

from shiftroads.errors import InvalidGrammar, InvalidRow, InvalidSymbols
from shiftroads.values import is_ascending, is_nonterminal_name, is_terminal_name, is_tuple

MOST_TERMINALS = 40
MOST_NONTERMINALS = 40
MOST_RULES = 80
LONGEST_RIGHT = 8
LONGEST_ROW = 400


def is_grammar(value):
    """Tell whether any value is a grammar."""
    if not is_tuple(value, 3, 3):
        return False
    terminals, start, rules = value
    if not are_terminals(terminals) or not are_rules(rules):
        return False
    lefts = {left: True for left, _ in rules}
    if len(lefts) > MOST_NONTERMINALS or not is_nonterminal_name(start) or start not in lefts:
        return False
    return all(name in lefts or name in terminals for _, right in rules for name in right)


def are_terminals(value):
    """Tell whether a value is an ascending tuple of terminals' names."""
    if not is_tuple(value, 1, MOST_TERMINALS):
        return False
    return all(is_terminal_name(name) for name in value) and is_ascending(value)


def are_rules(value):
    """Tell whether a value is a tuple of unlike rules, whatever symbols they name."""
    if not is_tuple(value, 1, MOST_RULES) or not all(is_rule(rule) for rule in value):
        return False
    return len(set(value)) == len(value)


def is_rule(value):
    """Tell whether a value is a rule, whatever symbols it names."""
    if not is_tuple(value, 2, 2):
        return False
    left, right = value
    if not is_nonterminal_name(left) or not is_tuple(right, 0, LONGEST_RIGHT):
        return False
    return all(is_terminal_name(name) or is_nonterminal_name(name) for name in right)


def nonterminals_of(grammar):
    """Return the ascending tuple of the nonterminals of a grammar."""
    check_grammar(grammar)
    return tuple(sorted({left for left, _ in grammar[2]}))


def symbols_of(grammar):
    """Return a dict whose keys are the symbols of a grammar."""
    symbols = {name: True for name in grammar[0]}
    for left, _ in grammar[2]:
        symbols[left] = True
    return symbols


def is_row_of(names, value):
    """Tell whether a value is a row of some names, as long as one that is handed in may be."""
    if not is_tuple(value, 0, LONGEST_ROW):
        return False
    return all(isinstance(name, str) and name in names for name in value)


def check_grammar(grammar):
    """Raise InvalidGrammar for what is no grammar."""
    if not is_grammar(grammar):
        raise InvalidGrammar("no grammar")


def check_symbol(grammar, symbol):
    """Raise InvalidSymbols for what is no symbol of a grammar."""
    if not isinstance(symbol, str) or symbol not in symbols_of(grammar):
        raise InvalidSymbols("no symbol of the grammar")


def check_nonterminal(grammar, nonterminal):
    """Raise InvalidSymbols for what is no nonterminal of a grammar."""
    if nonterminal not in nonterminals_of(grammar):
        raise InvalidSymbols("no nonterminal of the grammar")


def check_symbols(grammar, symbols):
    """Raise InvalidSymbols for what is no row of symbols of a grammar."""
    if not is_row_of(symbols_of(grammar), symbols):
        raise InvalidSymbols("no row of symbols of the grammar")


def check_row(grammar, row):
    """Raise InvalidRow for what is no row of tokens of a grammar."""
    if not is_row_of(grammar[0], row):
        raise InvalidRow("no row of tokens of the grammar")
