"""Items of a grammar, lots of them that are closed or moved, and spines."""

from shiftroads.errors import InvalidItem, InvalidItems, InvalidSpine
from shiftroads.grammars import check_grammar, check_symbol
from shiftroads.values import is_ascending, is_integer, is_tuple

LONGEST_SPINE = 20000


def items_of(grammar):
    """Return the ascending tuple of all items."""
    check_grammar(grammar)
    found = []
    for rule in range(-1, len(grammar[2])):
        found.extend([(rule, place) for place in range(len(right_of(grammar, rule)) + 1)])
    return tuple(found)


def closed(grammar, items):
    """Return the ascending tuple of the closed items of some items."""
    check_grammar(grammar)
    check_items(grammar, items)
    return closed_items(grammar, items)


def moved(grammar, items, symbol):
    """Return the ascending tuple of the items moved by a symbol."""
    check_grammar(grammar)
    check_items(grammar, items)
    check_symbol(grammar, symbol)
    return closed_items(grammar, advanced(grammar, items).get(symbol, ()))


def is_spine(grammar, value):
    """Tell whether any value is a spine."""
    check_grammar(grammar)
    if not is_tuple(value, 1, LONGEST_SPINE) or not all(is_item(grammar, item) for item in value):
        return False
    if value[0][0] != -1:
        return False
    return all(goes_on(grammar, one, other) for one, other in zip(value, value[1:]))


def context_by(grammar, spine):
    """Return the context by which a spine leads."""
    if not is_spine(grammar, spine):
        raise InvalidSpine("no spine of the grammar")
    context = []
    for rule, place in spine:
        context.extend(right_of(grammar, rule)[:place])
    return tuple(context)


def right_of(grammar, rule):
    """Return the right side of the rule with an index, which is -1 for the first rule."""
    return (grammar[1],) if rule == -1 else grammar[2][rule][1]


def symbol_behind(grammar, item):
    """Return the symbol behind an item, or None if it is whole."""
    right = right_of(grammar, item[0])
    return right[item[1]] if item[1] < len(right) else None


def goes_on(grammar, item, other):
    """Tell whether the symbol behind an item is the left side of the rule of another one."""
    return other[0] != -1 and symbol_behind(grammar, item) == grammar[2][other[0]][0]


def closed_items(grammar, items):
    """Return the ascending tuple of the closed items of some items."""
    found = {item: True for item in items}
    waiting = list(items)
    done = set()
    while waiting:
        symbol = symbol_behind(grammar, waiting.pop())
        if symbol in done:
            continue
        done.add(symbol)
        for rule, (left, _) in enumerate(grammar[2]):
            if left == symbol:
                found[rule, 0] = True
                waiting.append((rule, 0))
    return tuple(sorted(found))


def advanced(grammar, items):
    """Return a dict from each symbol behind some items to the tuple of these items, their places being one greater."""
    found = {}
    for rule, place in items:
        symbol = symbol_behind(grammar, (rule, place))
        if symbol is not None:
            found.setdefault(symbol, []).append((rule, place + 1))
    return {symbol: tuple(found[symbol]) for symbol in found}


def is_item(grammar, value):
    """Tell whether a value is an item of a grammar."""
    if not is_tuple(value, 2, 2) or not is_integer(value[0]) or not is_integer(value[1]):
        return False
    return -1 <= value[0] < len(grammar[2]) and 0 <= value[1] <= len(right_of(grammar, value[0]))


def are_items(grammar, value):
    """Tell whether a value is an ascending tuple of items of a grammar."""
    if not isinstance(value, tuple) or not all(is_item(grammar, item) for item in value):
        return False
    return is_ascending(value)


def check_items(grammar, items):
    """Raise InvalidItems for what is no ascending tuple of items of a grammar."""
    if not are_items(grammar, items):
        raise InvalidItems("no ascending tuple of items of the grammar")


def check_item(grammar, item):
    """Raise InvalidItem for what is no item of a grammar."""
    if not is_item(grammar, item):
        raise InvalidItem("no item of the grammar")
