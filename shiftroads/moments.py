"""The deeds by which a tree is worked, and the moments between them."""

from shiftroads.errors import InvalidNumber, InvalidTree, UnlikeLeaves
from shiftroads.grammars import check_grammar
from shiftroads.trees import is_tree, leaves_in
from shiftroads.values import is_index

SHIFT = ("shift",)
ACCEPT = ("accept",)


def deeds_of(grammar, tree):
    """Return the tuple of all deeds of a tree of the start."""
    check_grammar(grammar)
    check_tree(grammar, tree)
    return tuple(deeds_in_order(grammar, tree))


def moment_of(grammar, tree, number):
    """Return the context, the next token and the deed of the moment with a number."""
    check_grammar(grammar)
    check_tree(grammar, tree)
    deeds = deeds_in_order(grammar, tree)
    if not is_index(number, len(deeds)):
        raise InvalidNumber("no number of a moment")
    return moment_in(grammar, tree, deeds, number)


def parting(grammar, one, other):
    """Return the number of the first moment at which the deeds of two trees differ, or None."""
    check_grammar(grammar)
    check_tree(grammar, one)
    check_tree(grammar, other)
    if leaves_in(one) != leaves_in(other):
        raise UnlikeLeaves("the leaves of the trees differ")
    # Both rows of deeds end with the only accept, so neither is a beginning of the other one.
    pairs = list(zip(deeds_in_order(grammar, one), deeds_in_order(grammar, other)))
    for number, (deed, beside) in enumerate(pairs):
        if deed != beside:
            return number
    return None


def check_tree(grammar, tree):
    """Raise InvalidTree for what is no tree of the start."""
    if not is_tree(grammar, grammar[1], tree):
        raise InvalidTree("no tree of the start")


def deeds_in_order(grammar, tree):
    """Return the list of all deeds of a tree."""
    deeds = []
    working = []
    for item in tree:
        if isinstance(item, str):
            deeds.append(SHIFT)
        else:
            working.append([item, len(grammar[2][item][1]) + 1])
        # What is finished may finish what it is a part of.
        while working:
            working[-1][1] -= 1
            if working[-1][1] > 0:
                break
            deeds.append(("reduce", working.pop()[0]))
    deeds.append(ACCEPT)
    return deeds


def moment_in(grammar, tree, deeds, number):
    """Return the context, the next token and the deed of the moment with a number, all deeds being told."""
    leaves = leaves_in(tree)
    context = []
    place = 0
    for deed in deeds[:number]:
        if deed == SHIFT:
            context.append(leaves[place])
            place += 1
        else:
            left, right = grammar[2][deed[1]]
            context[len(context) - len(right):] = [left]
    return (tuple(context), leaves[place] if place < len(leaves) else None, deeds[number])
