"""Lots of tokens: what is behind symbols in rules, and what follows nonterminals."""

from shiftroads.firsts import empty_nonterminals, first_terminals
from shiftroads.grammars import check_grammar, check_nonterminal, symbols_of
from shiftroads.items import items_of, right_of


def follow_lot(grammar, nonterminal):
    """Return the follow lot of a nonterminal."""
    check_grammar(grammar)
    check_nonterminal(grammar, nonterminal)
    return lot_of(grammar, follow_bits(grammar).get(nonterminal, 0))


def follow_bits(grammar):
    """Return a dict from each nonterminal that is reached to its follow lot, as bits."""
    rests = rests_of(grammar)
    found = {grammar[1]: end_bit(grammar)}
    before = {}
    while found != before:
        before = {name: found[name] for name in found}
        for rule, place in rests:
            symbol, firsts, empty = rests[rule, place]
            if rule == -1 or symbol in grammar[0]:
                continue
            left = grammar[2][rule][0]
            if left in found:
                found[symbol] = found.get(symbol, 0) | firsts | (found[left] if empty else 0)
    return found


def end_bit(grammar):
    """Return the bit of the end; that of a terminal has its index as its place."""
    return 1 << len(grammar[0])


def lot_of(grammar, bits):
    """Return the lot whose tokens are told as bits."""
    tokens = grammar[0] + (None,)
    return tuple([token for index, token in enumerate(tokens) if (bits >> index) & 1])


def rests_of(grammar):
    """Return a dict from each item that is not whole to a triple that tells what is behind it.

    The triple has the symbol behind the item, the first terminals, as bits, of the symbols behind that one,
    and whether these derive the empty row.
    """
    empties = empty_nonterminals(grammar)
    firsts = {}
    for symbol in symbols_of(grammar):
        terminals = first_terminals(grammar, (symbol,))
        firsts[symbol] = sum(1 << grammar[0].index(name) for name in terminals)
    rests = {}
    for rule, place in items_of(grammar):
        right = right_of(grammar, rule)
        if place < len(right):
            bits, empty = row_bits(firsts, empties, right[place + 1:])
            rests[rule, place] = (right[place], bits, empty)
    return rests


def row_bits(firsts, empties, symbols):
    """Return the first terminals of a row of symbols, as bits, and whether it derives the empty row."""
    bits = 0
    for symbol in symbols:
        bits = bits | firsts[symbol]
        if symbol not in empties:
            return bits, False
    return bits, True
