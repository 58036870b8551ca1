"""Open trees, trees, their leaves and their parts."""

from shiftroads.errors import InvalidTree
from shiftroads.grammars import check_grammar, check_symbol
from shiftroads.values import is_index, is_terminal_name


def is_open_tree(grammar, symbol, value):
    """Tell whether any value is an open tree of a symbol."""
    check_grammar(grammar)
    check_symbol(grammar, symbol)
    return fits(grammar[2], symbol, value)


def is_tree(grammar, symbol, value):
    """Tell whether any value is a tree of a symbol."""
    check_grammar(grammar)
    check_symbol(grammar, symbol)
    if not fits(grammar[2], symbol, value):
        return False
    return all(is_terminal_name(leaf) for leaf in leaves_in(value))


def leaves_of(grammar, symbol, tree):
    """Return the tuple of the leaves of an open tree of a symbol."""
    check_open_tree(grammar, symbol, tree)
    return tuple(leaves_in(tree))


def parts_of(grammar, symbol, tree):
    """Return the list of the parts of an open tree of a symbol."""
    check_open_tree(grammar, symbol, tree)
    parts = []
    at = 1
    while at < len(tree):
        end = part_end(grammar[2], tree, at)
        parts.append(tree[at:end])
        at = end
    return parts


def check_open_tree(grammar, symbol, tree):
    """Raise the error of the first argument that is none of the kind that is asked for."""
    check_grammar(grammar)
    check_symbol(grammar, symbol)
    if not fits(grammar[2], symbol, tree):
        raise InvalidTree("no open tree of the symbol")


def fits(rules, symbol, value):
    """Tell whether a value is an open tree of a symbol by some rules."""
    if not isinstance(value, tuple):
        return False
    wanted = [symbol]
    for item in value:
        if not wanted:
            return False
        name = wanted.pop()
        if is_index(item, len(rules)) and rules[item][0] == name:
            wanted.extend(rules[item][1][::-1])
        elif item != name:
            return False
    return not wanted


def leaves_in(tree):
    """Return the list of the leaves of an open tree."""
    return [item for item in tree if isinstance(item, str)]


def part_end(rules, tree, at):
    """Return the place behind the open tree that begins at a place of another one."""
    wanted = 1
    while wanted:
        item = tree[at]
        wanted -= 1
        if not isinstance(item, str):
            wanted += len(rules[item][1])
        at += 1
    return at
