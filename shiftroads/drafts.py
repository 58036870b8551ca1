"""Drafts: grammars with levels, lists, marks and actions."""

from shiftroads.errors import InvalidDraft
from shiftroads.values import is_nonterminal_name, is_terminal_name, is_tuple

MOST_TERMINALS = 40
MOST_LEVELS = 40
MOST_LINES = 40
MOST_ALTERNATIVES = 80
MOST_ITEMS = 8
SIDES = ("left", "right", "none")


def is_draft(value):
    """Tell whether any value is a draft."""
    if not is_tuple(value, 4, 4):
        return False
    terminals, levels, start, lines = value
    if not are_told(terminals) or not are_levels(terminals, levels) or not are_named(lines):
        return False
    if not is_nonterminal_name(start) or sum(len(line[1]) for line in lines) > MOST_ALTERNATIVES:
        return False
    symbols = {line[0]: True for line in lines}
    if start not in symbols:
        return False
    for name in terminals:
        symbols[name] = True
    return all(are_alternatives(terminals, symbols, line[1]) for line in lines)


def are_told(value):
    """Tell whether a value is a tuple of unlike terminals' names."""
    if not is_tuple(value, 1, MOST_TERMINALS) or not all(is_terminal_name(name) for name in value):
        return False
    return len(set(value)) == len(value)


def are_levels(terminals, value):
    """Tell whether a value is a tuple of levels of some terminals, none of which stands there twice."""
    if not is_tuple(value, 0, MOST_LEVELS) or not all(is_level(terminals, level) for level in value):
        return False
    names = [name for level in value for name in level[1]]
    return len(set(names)) == len(names)


def is_level(terminals, value):
    """Tell whether a value is a pair of a side and of one or more of some terminals."""
    if not is_tuple(value, 2, 2) or value[0] not in SIDES:
        return False
    return is_tuple(value[1], 1, len(terminals)) and all(name in terminals for name in value[1])


def are_named(value):
    """Tell whether a value is a tuple of pairs of an unlike nonterminal's name and of a tuple of something."""
    if not is_tuple(value, 1, MOST_LINES):
        return False
    for line in value:
        if not is_tuple(line, 2, 2) or not is_nonterminal_name(line[0]):
            return False
        if not is_tuple(line[1], 1, MOST_ALTERNATIVES):
            return False
    return len({line[0] for line in value}) == len(value)


def are_alternatives(terminals, symbols, value):
    """Tell whether the items of a tuple are alternatives with unlike items."""
    if not all(is_alternative(terminals, symbols, alternative) for alternative in value):
        return False
    return len({alternative[0] for alternative in value}) == len(value)


def is_alternative(terminals, symbols, value):
    """Tell whether a value is an alternative."""
    if not is_tuple(value, 3, 3):
        return False
    items, mark, action = value
    if not is_tuple(items, 0, MOST_ITEMS) or not all(is_item(symbols, item) for item in items):
        return False
    if mark is not None and mark not in terminals:
        return False
    return action is None or is_terminal_name(action)


def is_item(symbols, value):
    """Tell whether a value is one of some symbols, or a list of such."""
    if isinstance(value, str):
        return value in symbols
    if is_tuple(value, 3, 3):
        known = value[0] in ("*", "+")
    else:
        known = is_tuple(value, 2, 2) and value[0] in ("*", "+", "?")
    return known and all(isinstance(name, str) and name in symbols for name in value[1:])


def check_draft(draft):
    """Raise InvalidDraft for what is no draft."""
    if not is_draft(draft):
        raise InvalidDraft("no draft")
