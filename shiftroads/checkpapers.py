"""Claims about the symbols of a grammar, and the papers that show them."""

from shiftroads.checks import all_steps, bare_steps, left_corners, left_steps, productive, reached, spread
from shiftroads.errors import InvalidClaim, InvalidLadder, TooMany
from shiftroads.firsts import empty_nonterminals, ladder_from
from shiftroads.grammars import check_grammar, check_nonterminal, nonterminals_of, symbols_of
from shiftroads.values import is_ascending, is_index, is_tuple

MOST_TREE_ITEMS = 2000
OPPOSITES = {
    "productive": "barren", "barren": "productive",
    "empty": "filled", "filled": "empty",
    "reached": "apart", "apart": "reached",
    "ring": "free", "free": "ring",
    "corner": "clear", "clear": "corner",
}


def judge_paper(grammar, claim, paper):
    """Tell whether any value is a paper for a claim."""
    check_claim(grammar, claim)
    word = claim[0]
    if word in ("productive", "empty"):
        return is_ladder(grammar, paper, word == "empty") and claim[1] in shown(grammar, paper)
    if word in ("barren", "filled"):
        return is_stopping_lot(grammar, paper, word == "filled") and claim[1] in paper
    if word == "reached":
        return is_way(grammar, paper, grammar[1], claim[1])
    if word == "apart":
        return is_lot(grammar, paper) and is_apart(grammar, paper, claim[1])
    if not is_tuple(paper, 2, 2):
        return False
    if word in ("ring", "corner"):
        return is_way_by_ladder(grammar, paper, claim[1], claim[-1], word == "ring")
    return is_closed_lot(grammar, paper, claim[1], claim[-1], word == "free")


def paper_for(grammar, claim):
    """Return a paper for a claim that holds, or None for another one."""
    check_claim(grammar, claim)
    paper = likely_paper(grammar, claim)
    return paper if judge_paper(grammar, claim, paper) else None


def opposite(grammar, claim):
    """Return the opposite claim."""
    check_claim(grammar, claim)
    return (OPPOSITES[claim[0]],) + claim[1:]


def ladder_tree(grammar, ladder, nonterminal):
    """Return the tree of a nonterminal in which each one goes on by the first rule for it in a ladder."""
    check_grammar(grammar)
    if not is_ladder(grammar, ladder, False):
        raise InvalidLadder("no ladder")
    check_nonterminal(grammar, nonterminal)
    firsts = {}
    sizes = {name: 1 for name in grammar[0]}
    for rule in ladder:
        left, right = grammar[2][rule]
        if left not in firsts:
            firsts[left] = rule
            sizes[left] = 1 + sum(sizes[symbol] for symbol in right)
    if nonterminal not in firsts:
        raise InvalidLadder("the nonterminal is not shown")
    if sizes[nonterminal] > MOST_TREE_ITEMS:
        raise TooMany(MOST_TREE_ITEMS)
    return grown(grammar, firsts, nonterminal)


def grown(grammar, firsts, symbol):
    """Return the tree of a symbol in which each nonterminal goes on by the rule that is told for it."""
    items = []
    wanted = [symbol]
    while wanted:
        name = wanted.pop()
        if name in firsts:
            items.append(firsts[name])
            wanted.extend(grammar[2][firsts[name]][1][::-1])
        else:
            items.append(name)
    return tuple(items)


def check_claim(grammar, claim):
    """Raise the error for what is no grammar, or no claim about it."""
    check_grammar(grammar)
    if not is_claim(grammar, claim):
        raise InvalidClaim("no claim about the grammar")


def is_claim(grammar, value):
    """Tell whether a value is a claim about a grammar."""
    if not is_tuple(value, 2, 3) or not isinstance(value[0], str) or value[0] not in OPPOSITES:
        return False
    if (len(value) == 3) != (value[0] in ("corner", "clear")):
        return False
    if value[0] in ("reached", "apart"):
        return value[1] in list(symbols_of(grammar))
    return value[1] in nonterminals_of(grammar) and value[-1] in list(symbols_of(grammar))


def is_ladder(grammar, value, bare):
    """Tell whether a value is a ladder, a bare one if so told."""
    if not isinstance(value, tuple):
        return False
    known = {} if bare else {name: True for name in grammar[0]}
    for rule in value:
        if not is_index(rule, len(grammar[2])):
            return False
        left, right = grammar[2][rule]
        if not all(symbol in known for symbol in right):
            return False
        known[left] = True
    return True


def shown(grammar, ladder):
    """Return a dict whose keys are the nonterminals that a ladder shows."""
    return {grammar[2][rule][0]: True for rule in ladder}


def is_lot(grammar, value):
    """Tell whether a value is a lot."""
    symbols = symbols_of(grammar)
    if not is_tuple(value, 0, len(symbols)):
        return False
    return all(isinstance(name, str) and name in symbols for name in value) and is_ascending(value)


def is_stopping_lot(grammar, value, filled):
    """Tell whether a value is a filled lot, if so told, or else a barren one."""
    if not is_lot(grammar, value) or any(name in grammar[0] for name in value):
        return False
    stops = value + grammar[0] if filled else value
    return all(any(symbol in stops for symbol in right) for left, right in grammar[2] if left in value)


def is_apart(grammar, lot, symbol):
    """Tell whether a lot has the start and all that it leads to, but not a symbol."""
    if grammar[1] not in lot or symbol in lot:
        return False
    return all(name in lot for left, right in grammar[2] if left in lot for name in right)


def is_way(grammar, value, begin, end):
    """Tell whether a value is a way from a symbol to another one."""
    if not isinstance(value, tuple):
        return False
    symbol = begin
    for step in value:
        if not is_tuple(step, 2, 2) or not is_index(step[0], len(grammar[2])):
            return False
        left, right = grammar[2][step[0]]
        if left != symbol or not is_index(step[1], len(right)):
            return False
        symbol = right[step[1]]
    return symbol == end


def is_way_by_ladder(grammar, pair, begin, end, bare):
    """Tell whether a pair is a bare ladder and a way of one or more steps that are left by it, or even bare."""
    ladder, way = pair
    if not is_ladder(grammar, ladder, True) or not is_way(grammar, way, begin, end) or not way:
        return False
    known = shown(grammar, ladder)
    for rule, place in way:
        if not all(symbol in known for symbol in besides(grammar[2][rule][1], place, bare)):
            return False
    return True


def besides(right, place, bare):
    """Return the symbols of a right side ahead of a place, and, if so told, those behind it."""
    return right[:place] + right[place + 1:] if bare else right[:place]


def is_closed_lot(grammar, pair, begin, end, bare):
    """Tell whether a pair is a filled lot and one to which steps from a symbol lead, but which lacks another one.

    Just the steps count that may be left, or even bare, as far as the filled lot tells.
    """
    filled, lot = pair
    if not is_stopping_lot(grammar, filled, True) or not is_lot(grammar, lot) or end in lot:
        return False
    stops = filled + grammar[0]
    for rule, place in all_steps(grammar):
        left, right = grammar[2][rule]
        if (left != begin and left not in lot) or (bare and right[place] in grammar[0]):
            continue
        if right[place] not in lot and not any(symbol in stops for symbol in besides(right, place, bare)):
            return False
    return True


def likely_paper(grammar, claim):
    """Return the paper for a claim if it holds, otherwise any value."""
    word = claim[0]
    if word == "productive":
        return tuple(ladder_from(grammar, grammar[0]))
    if word == "empty":
        return tuple(ladder_from(grammar, ()))
    if word == "barren":
        return without(nonterminals_of(grammar), productive(grammar))
    if word == "filled":
        return filled_lot(grammar)
    if word == "reached":
        return way_to(grammar, all_steps(grammar), grammar[1], claim[1], claim[1] == grammar[1])
    if word == "apart":
        return reached(grammar)
    if word == "ring":
        return (tuple(ladder_from(grammar, ())), way_to(grammar, bare_steps(grammar), claim[1], claim[1], False))
    if word == "corner":
        return (tuple(ladder_from(grammar, ())), way_to(grammar, left_steps(grammar), claim[1], claim[2], False))
    if word == "clear":
        return (filled_lot(grammar), left_corners(grammar, claim[1]))
    names = spread(grammar, bare_steps(grammar), claim[1])
    return (filled_lot(grammar), tuple(sorted(names)))


def filled_lot(grammar):
    """Return the tuple of all nonterminals that are not empty."""
    return without(nonterminals_of(grammar), empty_nonterminals(grammar))


def without(names, others):
    """Return the tuple of the names that are not among others."""
    return tuple([name for name in names if name not in others])


def way_to(grammar, steps, begin, end, there):
    """Return a shortest way by some steps from a symbol to another one, or None.

    It has at least one step, unless it is told that one is there already.
    """
    if there:
        return ()
    last_steps = spread(grammar, steps, begin)
    if end not in last_steps:
        return None
    way = [last_steps[end]]
    symbol = grammar[2][way[0][0]][0]
    while symbol != begin:
        way.append(last_steps[symbol])
        symbol = grammar[2][last_steps[symbol][0]][0]
    return tuple(way[::-1])
