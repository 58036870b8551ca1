"""Empty nonterminals, first terminals, and whether a short row is a sentence."""

from shiftroads.errors import TooMany
from shiftroads.grammars import check_grammar, check_row, check_symbols

LONGEST_SENTENCE = 12


def empty_nonterminals(grammar):
    """Return the ascending tuple of the empty nonterminals."""
    check_grammar(grammar)
    return tuple(sorted([grammar[2][rule][0] for rule in ladder_from(grammar, ())]))


def first_terminals(grammar, symbols):
    """Return the ascending tuple of the first terminals of a row of symbols."""
    check_grammar(grammar)
    check_symbols(grammar, symbols)
    empties = empty_nonterminals(grammar)
    found = {}
    waiting = leading(symbols, empties)
    while waiting:
        symbol = waiting.pop()
        if symbol in found:
            continue
        found[symbol] = True
        for left, right in grammar[2]:
            if left == symbol:
                waiting.extend(leading(right, empties))
    return tuple(sorted([symbol for symbol in found if symbol in grammar[0]]))


def is_sentence(grammar, row):
    """Tell whether a row of at most 12 tokens is a sentence."""
    check_grammar(grammar)
    check_row(grammar, row)
    if len(row) > LONGEST_SENTENCE:
        raise TooMany(LONGEST_SENTENCE)
    ends = {(token, place): 1 << (place + 1) for place, token in enumerate(row)}
    for begin in range(len(row), -1, -1):
        fill_ends(grammar, begin, ends)
    return (ends.get((grammar[1], 0), 0) >> len(row)) & 1 == 1


def ladder_from(grammar, known):
    """Return a list of indices of rules, one for each nonterminal that derives a row of known symbols.

    The right side of each of them has known symbols, and left sides of rules ahead of it, alone.
    """
    done = {symbol: True for symbol in known}
    ladder = []
    before = -1
    while before < len(ladder):
        before = len(ladder)
        for index, (left, right) in enumerate(grammar[2]):
            if left not in done and all(symbol in done for symbol in right):
                done[left] = True
                ladder.append(index)
    return ladder


def leading(symbols, empties):
    """Return the list of the symbols of a row ahead of which all are empty nonterminals."""
    found = []
    for symbol in symbols:
        found.append(symbol)
        if symbol not in empties:
            break
    return found


def fill_ends(grammar, begin, ends):
    """Note for each symbol, as bits, the ends of the parts of a row from a place on that it derives.

    All parts that begin behind this place must have been noted.
    """
    changed = True
    while changed:
        changed = False
        for left, right in grammar[2]:
            known = ends.get((left, begin), 0)
            bits = known | ends_of_right(right, begin, ends)
            if bits != known:
                ends[left, begin] = bits
                changed = True


def ends_of_right(right, begin, ends):
    """Return, as bits, the ends of the parts from a place on that a right side derives by what is noted."""
    places = 1 << begin
    for symbol in right:
        behind = 0
        for place in range(begin, places.bit_length()):
            if (places >> place) & 1:
                behind = behind | ends.get((symbol, place), 0)
        places = behind
    return places
