"""Packed forests of rows; their trees counted, numbered and found by their numbers."""

from shiftroads.errors import Endless, InvalidNumber, InvalidTree, TooMany
from shiftroads.grammars import check_grammar, check_row
from shiftroads.nodes import Forest, LeastTwo
from shiftroads.trees import fits, leaves_in
from shiftroads.values import is_integer

MOST_ITEMS = 20000
MOST_TREES = 10 ** 60


def forest(grammar, row):
    """Return the forest of a row."""
    check_grammar(grammar)
    check_row(grammar, row)
    nodes = Forest(grammar, row).packings
    return tuple([(node, tuple(nodes[node])) for node in sorted(nodes)])


def tree_count(grammar, row):
    """Return the number of trees of a row, or None for endlessly many."""
    check_grammar(grammar)
    check_row(grammar, row)
    packed = Forest(grammar, row)
    counts = packed.counts()
    return None if counts is None else whole_count(packed, counts)


def tree_at(grammar, row, number):
    """Return the tree of a row with a number."""
    check_grammar(grammar)
    check_row(grammar, row)
    if not is_integer(number):
        raise InvalidNumber("no integer")
    packed = Forest(grammar, row)
    counts = finite_counts(packed)
    count = whole_count(packed, counts)
    if not 0 <= number < count:
        raise InvalidNumber("no number of a tree")
    return grown_by(packed, counts, number)


def tree_number(grammar, row, tree):
    """Return the number of a tree of a row."""
    check_grammar(grammar)
    check_row(grammar, row)
    packed = Forest(grammar, row)
    counts = finite_counts(packed)
    whole_count(packed, counts)
    if not fits(grammar[2], grammar[1], tree) or tuple(leaves_in(tree)) != row:
        raise InvalidTree("no tree of the row")
    return number_in(packed, counts, tree)


def some_trees(grammar, row):
    """Return a least tree of a row, and a least one of the others, each None if there is none."""
    check_grammar(grammar)
    check_row(grammar, row)
    packed = Forest(grammar, row)
    if not packed.packings:
        return (None, None)
    least = LeastTwo(packed)
    check_size(least.bests[packed.root][0])
    if packed.root not in least.others:
        return (least.best_tree(), None)
    check_size(least.others[packed.root][0])
    return (least.best_tree(), least.other_tree())


def check_size(size):
    """Raise TooMany for a tree of more than 20,000 items."""
    if size > MOST_ITEMS:
        raise TooMany(MOST_ITEMS)


def finite_counts(packed):
    """Return the numbers of trees of all nodes; raise Endless if there are endlessly many."""
    counts = packed.counts()
    if counts is None:
        raise Endless("endlessly many trees")
    return counts


def whole_count(packed, counts):
    """Return the number of trees of a row; raise TooMany if it is too great."""
    count = counts.get(packed.root, 0)
    if count > MOST_TREES:
        raise TooMany(MOST_TREES)
    return count


def grown_by(packed, counts, number):
    """Return the tree of a row with a number that there is."""
    items = []
    waiting = [(packed.root, number)]
    while waiting:
        part, rest = waiting.pop()
        check_size(len(items) + 1)
        if part not in counts:
            items.append(part[0])
            continue
        packing, rest = packing_at(packed, counts, part, rest)
        items.append(packing[0])
        parts = []
        # The number of the last part changes fastest.
        for inner in packed.parts_in(part, packing)[::-1]:
            count = counts.get(inner, 1)
            parts.append((inner, rest - rest // count * count))
            rest = rest // count
        waiting.extend(parts)
    return tuple(items)


def packing_at(packed, counts, node, number):
    """Return the packing in which a node's tree with a number is, and its number among those of the packing."""
    for packing in packed.packings[node]:
        count = packed.packing_count(node, packing, counts)
        if number < count:
            break
        number -= count
    return packing, number


def number_in(packed, counts, tree):
    """Return the number of a tree of a row."""
    ahead = [0]
    for item in tree:
        ahead.append(ahead[-1] + (1 if isinstance(item, str) else 0))
    done = []
    for at in range(len(tree) - 1, -1, -1):
        item = tree[at]
        if isinstance(item, str):
            done.append((ahead[at + 1], 0))
            continue
        left, right = packed.rules[item]
        parts = done[len(done) - len(right):][::-1]
        del done[len(done) - len(right):]
        cuts = tuple([end for end, _ in parts])
        node = (left, ahead[at], cuts[-1] if cuts else ahead[at])
        done.append((node[2], number_of(packed, counts, node, (item, cuts), [number for _, number in parts])))
    return done[0][1]


def number_of(packed, counts, node, packing, numbers):
    """Return the number of a node's tree by its packing and the numbers of its parts."""
    total = 0
    for part, number in zip(packed.parts_in(node, packing), numbers):
        total = total * counts.get(part, 1) + number
    for other in packed.packings[node]:
        if other == packing:
            break
        total += packed.packing_count(node, other, counts)
    return total
