"""Drafts made plain: grammars without lists, and trees there and back."""

from shiftroads.drafts import check_draft
from shiftroads.errors import InvalidSymbols, InvalidTree, TooMany
from shiftroads.grammars import MOST_NONTERMINALS, MOST_RULES
from shiftroads.trees import is_tree
from shiftroads.values import is_index, is_integer, is_terminal_name, is_tuple

MOST_ITEMS = 20000


def plain_grammar(draft):
    """Return the plain grammar of a draft."""
    check_plain(draft)
    return grammar_of(draft)


def rule_notes(draft):
    """Return the tuple of the pair of mark and action of each plain rule."""
    check_plain(draft)
    notes = [alternative[1:] for line in draft[3] for alternative in line[1]]
    return tuple(notes) + ((None, None),) * (len(plain_rules(draft)) - len(notes))


def is_sweet_tree(draft, symbol, value):
    """Tell whether any value is a sweet tree of a symbol of a draft."""
    check_plain(draft)
    if symbol not in draft[0] and symbol not in [line[0] for line in draft[3]]:
        raise InvalidSymbols("no symbol of the draft")
    return plain_items(draft, symbol, value) is not None


def sweet_tree(draft, tree):
    """Return the sweet tree of a tree of the plain grammar."""
    check_plain(draft)
    symbol = root_of(draft, tree)
    if symbol is None or not is_tree(grammar_of(draft), symbol, tree):
        raise InvalidTree("no tree of a symbol of the draft")
    alternatives = count_alternatives(draft)
    effects = list_effects(draft)
    items = []
    count = 0
    for item in tree:
        if isinstance(item, str) or item < alternatives:
            items.append(item)
            continue
        more, closes = effects[item - alternatives]
        count += more
        if closes:
            items.append(count)
            count = 0
    return tuple(items)


def plain_tree(draft, sweet):
    """Return the tree of the plain grammar of a sweet tree."""
    check_plain(draft)
    symbol = root_of(draft, sweet)
    items = None if symbol is None else plain_items(draft, symbol, sweet)
    if items is None:
        raise InvalidTree("no sweet tree of a symbol of the draft")
    if len(items) > MOST_ITEMS:
        raise TooMany(MOST_ITEMS)
    return tuple(items)


def check_plain(draft):
    """Raise the error for what is no draft, or for one with too many plain rules or nonterminals."""
    check_draft(draft)
    if len(plain_rules(draft)) > MOST_RULES:
        raise TooMany(MOST_RULES)
    if len(draft[3]) + len(list_names(draft)) > MOST_NONTERMINALS:
        raise TooMany(MOST_NONTERMINALS)


def grammar_of(draft):
    """Return the plain grammar of a draft that has one."""
    return (tuple(sorted(draft[0])), draft[2], tuple(plain_rules(draft)))


def count_alternatives(draft):
    """Return the number of the alternatives of a draft."""
    return sum(len(line[1]) for line in draft[3])


def list_names(draft):
    """Return a dict with the nonterminal of each list of a draft, in the order of their first coming."""
    lines = [line[0] for line in draft[3]]
    names = {}
    number = 0
    for part in lists_in(draft):
        number += 1
        while f"L{number}" in lines:
            number += 1
        names[part] = f"L{number}"
    return names


def lists_in(draft):
    """Return a dict whose keys are the unlike lists of a draft, in the order of their first coming."""
    found = {}
    for line in draft[3]:
        for alternative in line[1]:
            for item in alternative[0]:
                if isinstance(item, tuple):
                    found[item] = True
                    if is_parted_star(item):
                        found[parted_plus(item)] = True
    return found


def is_parted_star(part):
    """Tell whether a list is one of any number of trees with something between them."""
    return len(part) == 3 and part[0] == "*"


def parted_plus(part):
    """Return the list that is alike but has at least one tree."""
    return ("+", part[1], part[2])


def plain_rules(draft):
    """Return the list of the plain rules of a draft."""
    names = list_names(draft)
    rules = []
    for left, alternatives in draft[3]:
        for alternative in alternatives:
            right = [item if isinstance(item, str) else names[item] for item in alternative[0]]
            rules.append((left, tuple(right)))
    for part in names:
        for right in list_rights(part, names):
            rules.append((names[part], right))
    return rules


def list_rights(part, names):
    """Return the right sides of the two rules of a list."""
    if is_parted_star(part):
        return ((), (names[parted_plus(part)],))
    one = (part[1],)
    first = one if part[0] == "+" else ()
    second = one if part[0] == "?" else (names[part],) + part[2:] + one
    return (first, second)


def list_effects(draft):
    """Return, for each plain rule of a list, how many trees it adds, and whether it ends their number."""
    effects = []
    for part in list_names(draft):
        effects.append((1 if part[0] == "+" else 0, True))
        effects.append((0 if is_parted_star(part) else 1, part[0] == "?"))
    return effects


def first_rules(draft):
    """Return a dict with the index of the first plain rule of each list."""
    firsts = {}
    rule = count_alternatives(draft)
    for part in list_names(draft):
        firsts[part] = rule
        rule += 2
    return firsts


def root_of(draft, tree):
    """Return the symbol of a draft of which a value may be a tree, or None."""
    if not isinstance(tree, tuple) or len(tree) == 0:
        return None
    if is_index(tree[0], count_alternatives(draft)):
        return plain_rules(draft)[tree[0]][0]
    return tree[0] if is_terminal_name(tree[0]) and tree[0] in draft[0] else None


def plain_items(draft, symbol, value):
    """Return the list of the items of the plain tree of a sweet tree of a symbol, or None for what is none."""
    if not is_tuple(value, 1, MOST_ITEMS):
        return None
    alternatives = [(line[0], alternative[0]) for line in draft[3] for alternative in line[1]]
    firsts = first_rules(draft)
    wanted = [symbol]
    items = []
    for place, item in enumerate(value):
        # What is wanted has at least one item each; this also bounds the numbers.
        if not wanted or len(wanted) > len(value) - place:
            return None
        part = wanted.pop()
        if isinstance(part, tuple):
            if not is_count(part, item, len(value) - place):
                return None
            items.extend(list_run(firsts, part, item))
            wanted.extend(list_symbols(part, item))
        elif is_index(item, len(alternatives)) and alternatives[item][0] == part:
            items.append(item)
            wanted.extend(alternatives[item][1][::-1])
        elif item == part and is_terminal_name(part):
            items.append(item)
        else:
            return None
    return None if wanted else items


def is_count(part, value, most):
    """Tell whether a value is a number of trees, up to a greatest one, that a list may have."""
    if not is_integer(value):
        return False
    least = 1 if part[0] == "+" else 0
    return least <= value <= (1 if part[0] == "?" else most)


def list_symbols(part, count):
    """Return the symbols of the trees of a list with a number of trees of its first symbol.

    They are the same from the front and from behind, so they may be put on a stack as they are.
    """
    if len(part) == 2 or count == 0:
        return (part[1],) * count
    return (part[1],) + (part[2], part[1]) * (count - 1)


def list_run(firsts, part, count):
    """Return the plain rules, one behind the other, of a list with a number of trees."""
    rule = firsts[part]
    if is_parted_star(part):
        return [rule] if count == 0 else [rule + 1] + list_run(firsts, parted_plus(part), count)
    if part[0] == "?":
        return [rule + count]
    more = count - 1 if part[0] == "+" else count
    return [rule + 1] * more + [rule]
