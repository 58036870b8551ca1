"""Machines of a grammar, their deeds and conflicts, and conflicts settled by a precedence."""

from shiftroads.drafts import MOST_LEVELS, is_level
from shiftroads.errors import InvalidDeed, InvalidMachine, InvalidNumber, InvalidPrecedence, InvalidToken, InvalidWord
from shiftroads.errors import Open
from shiftroads.grammars import check_grammar, symbols_of
from shiftroads.items import are_items
from shiftroads.lookaheads import whole_rules
from shiftroads.moments import ACCEPT, SHIFT
from shiftroads.values import is_ascending, is_index, is_tuple

MOST_STATES = 2000


def deeds_in(grammar, machine, state, token):
    """Return the ascending tuple of the deeds in a state for a token."""
    check_grammar(grammar)
    check_machine(grammar, machine)
    check_state(machine, state)
    check_token(grammar, token)
    return tuple(deeds_by_token(grammar, machine, state)[token])


def conflicts(grammar, machine):
    """Return the ascending tuple of all conflicts."""
    check_grammar(grammar)
    check_machine(grammar, machine)
    return tuple(conflicts_of(grammar, machine))


def level_of(grammar, precedence, rule):
    """Return the level of the rule with an index, or None."""
    check_grammar(grammar)
    check_precedence(grammar, precedence)
    if not is_index(rule, len(grammar[2])):
        raise InvalidNumber("no index of a rule")
    return rule_level(grammar, precedence, rule)


def settled(grammar, machine, precedence):
    """Return the tuple, for each conflict, of its state, its token and the tuple of the deeds that are left."""
    check_grammar(grammar)
    check_machine(grammar, machine)
    check_precedence(grammar, precedence)
    found = []
    for state, token, deeds in conflicts_of(grammar, machine):
        found.append((state, token, deeds_left(grammar, precedence, token, deeds)))
    return tuple(found)


def settled_rows(grammar, machine, precedence, in_order):
    """Return the tuple, for each state, of the pairs of a token and of the one deed that it has, or that is left."""
    check_grammar(grammar)
    check_machine(grammar, machine)
    check_precedence(grammar, precedence)
    if in_order is not True and in_order is not False:
        raise InvalidWord("neither True nor False")
    rows = []
    for state in range(len(machine[0])):
        targets = {symbol: target for symbol, target in machine[1][state]}
        row = []
        for token, deeds in deeds_by_token(grammar, machine, state).items():
            if deeds:
                left = deeds_left(grammar, precedence, token, tuple(deeds))
                if len(left) > 1 and not in_order:
                    raise Open(state, token)
                deed = first_in_order(left)
                row.append((token, deed + (targets[token],) if deed == SHIFT else deed))
        rows.append(tuple(row))
    return tuple(rows)


def deeds_by_token(grammar, machine, state):
    """Return a dict with the ascending list of the deeds in a state for each terminal, ascending, and then for None."""
    found = {token: [] for token in grammar[0] + (None,)}
    for rule, lot in machine[2][state]:
        for token in lot:
            found[token].append(ACCEPT if rule == -1 else ("reduce", rule))
    for symbol, _ in machine[1][state]:
        if symbol in found:
            found[symbol].append(SHIFT)
    return found


def conflicts_of(grammar, machine):
    """Return the list of all conflicts of a machine."""
    found = []
    for state in range(len(machine[0])):
        for token, deeds in deeds_by_token(grammar, machine, state).items():
            if len(deeds) > 1:
                found.append((state, token, tuple(deeds)))
    return found


def rule_level(grammar, precedence, rule):
    """Return the level of a rule, or None."""
    for other, token in precedence[1]:
        if other == rule:
            return token_level(precedence, token)
    terminals = [symbol for symbol in grammar[2][rule][1] if symbol in grammar[0]]
    return token_level(precedence, terminals[-1]) if terminals else None


def token_level(precedence, token):
    """Return the level of a token, or None."""
    for level, (_, tokens) in enumerate(precedence[0]):
        if token in tokens:
            return level
    return None


def deeds_left(grammar, precedence, token, deeds):
    """Return the tuple of some deeds for a token that no other one of them beats."""
    level = token_level(precedence, token)
    if level is None or SHIFT not in deeds:
        return deeds
    side = precedence[0][level][0]
    beaten = {}
    for deed in deeds:
        other = rule_level(grammar, precedence, deed[1]) if deed[0] == "reduce" else None
        if other is None:
            continue
        if other > level or (other == level and side in ("left", "none")):
            beaten[SHIFT] = True
        if other < level or (other == level and side in ("right", "none")):
            beaten[deed] = True
    return tuple([deed for deed in deeds if deed not in beaten])


def first_in_order(deeds):
    """Return the first deed in order of an ascending tuple of deeds, or the refusal if there is none."""
    if not deeds:
        return ("refuse",)
    return SHIFT if SHIFT in deeds and ACCEPT not in deeds else deeds[0]


def is_machine(grammar, value):
    """Tell whether a value is a machine of a grammar."""
    if not is_tuple(value, 3, 3) or not is_tuple(value[0], 1, MOST_STATES):
        return False
    states, ways, looks = value
    count = len(states)
    if not is_tuple(ways, count, count) or not is_tuple(looks, count, count):
        return False
    symbols = symbols_of(grammar)
    for state, leads, pairs in zip(states, ways, looks):
        if not are_items(grammar, state) or not are_ways(symbols, count, leads):
            return False
        if not are_looks(grammar, whole_rules(grammar, state), pairs):
            return False
    return True


def are_ways(symbols, count, value):
    """Tell whether a value is an ascending tuple of pairs of an unlike symbol and of one of so many states."""
    if not is_tuple(value, 0, len(symbols)):
        return False
    for way in value:
        if not is_tuple(way, 2, 2) or not isinstance(way[0], str) or way[0] not in symbols:
            return False
        if not is_index(way[1], count):
            return False
    return is_ascending([symbol for symbol, _ in value])


def are_looks(grammar, rules, value):
    """Tell whether a value is a tuple of pairs of a rule and of a lot, one for each of some rules, in their order."""
    if not is_tuple(value, len(rules), len(rules)):
        return False
    for rule, pair in zip(rules, value):
        if not is_tuple(pair, 2, 2) or isinstance(pair[0], bool) or pair[0] != rule or not is_lot(grammar, pair[1]):
            return False
    return True


def is_lot(grammar, value):
    """Tell whether a value is an ascending tuple of terminals, and behind these None, or not."""
    if not is_tuple(value, 0, len(grammar[0]) + 1):
        return False
    tokens = value[:-1] if value and value[-1] is None else value
    return all(token in grammar[0] for token in tokens) and is_ascending(tokens)


def is_precedence(grammar, value):
    """Tell whether a value is a precedence."""
    if not is_tuple(value, 2, 2):
        return False
    levels, marks = value
    if not is_tuple(levels, 0, MOST_LEVELS) or not all(is_level(grammar[0], level) for level in levels):
        return False
    tokens = [token for level in levels for token in level[1]]
    if not all(is_ascending(level[1]) for level in levels) or len(set(tokens)) < len(tokens):
        return False
    if not is_tuple(marks, 0, len(grammar[2])):
        return False
    for mark in marks:
        if not is_tuple(mark, 2, 2) or not is_index(mark[0], len(grammar[2])) or mark[1] not in tokens:
            return False
    return is_ascending([rule for rule, _ in marks])


def is_token(grammar, value):
    """Tell whether a value is a terminal, or None."""
    return value is None or value in grammar[0]


def is_deed(grammar, value):
    """Tell whether a value is a deed of a tree."""
    if not is_tuple(value, 2, 2):
        return value == SHIFT or value == ACCEPT
    return value[0] == "reduce" and is_index(value[1], len(grammar[2]))


def check_machine(grammar, machine):
    """Raise InvalidMachine for what is no machine of a grammar."""
    if not is_machine(grammar, machine):
        raise InvalidMachine("no machine of the grammar")


def check_state(machine, state):
    """Raise InvalidNumber for what is no index of a state of a machine."""
    if not is_index(state, len(machine[0])):
        raise InvalidNumber("no index of a state")


def check_token(grammar, token):
    """Raise InvalidToken for what is neither a terminal nor None."""
    if not is_token(grammar, token):
        raise InvalidToken("neither a terminal nor None")


def check_precedence(grammar, precedence):
    """Raise InvalidPrecedence for what is no precedence."""
    if not is_precedence(grammar, precedence):
        raise InvalidPrecedence("no precedence")


def check_deed(grammar, deed):
    """Raise InvalidDeed for what is no deed of a tree."""
    if not is_deed(grammar, deed):
        raise InvalidDeed("no deed")
