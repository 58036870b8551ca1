"""Joinings: canonical states put into classes without a new clash."""

from shiftroads.canonicals import canonical_bits
from shiftroads.errors import TooMany
from shiftroads.grammars import check_grammar
from shiftroads.items import symbol_behind
from shiftroads.values import is_ascending, is_index, is_tuple

MOST_JOINED = 200


def is_joining(grammar, value):
    """Tell whether any value is a joining."""
    check_grammar(grammar)
    states, ways = canonical_bits(grammar)
    return joins(grammar, states, ways, value)


def full_joining(grammar):
    """Return the tuple of the classes of states with one core."""
    check_grammar(grammar)
    states, _ = canonical_bits(grammar)
    return classes_of([tuple(sorted(state)) for state in states])


def clashes_anew(grammar):
    """Tell whether the full joining is no joining."""
    return not is_joining(grammar, full_joining(grammar))


def far_joining(grammar):
    """Return a joining that cannot be joined further."""
    check_grammar(grammar)
    states, ways = canonical_bits(grammar)
    if len(states) > MOST_JOINED:
        raise TooMany(MOST_JOINED)
    cores = classes_of([tuple(sorted(state)) for state in states])
    owners = list(range(len(states)))
    # A pair that cannot be joined stays so, however far others are joined, so each one is tried once.
    for numbers in cores:
        for place, one in enumerate(numbers):
            for other in numbers[:place]:
                owners = owners_joining(grammar, states, ways, owners, one, other)
    return classes_of(owners)


def classes_of(marks):
    """Return the ascending tuple of the classes of indices whose marks are the same."""
    found = {}
    for number, mark in enumerate(marks):
        found.setdefault(mark, []).append(number)
    return tuple(sorted([tuple(numbers) for numbers in found.values()]))


def owners_joining(grammar, states, ways, owners, one, other):
    """Return the owners with the classes of two states joined, or the same ones if states clash anew then.

    Owners are a list that tells, for each state, a mark of its class.
    """
    joined = joined_owners(ways, owners, one, other)
    changed = {owner: True for number, owner in enumerate(joined) if owner != owners[number]}
    for mark in changed:
        if clash(grammar, states, [number for number, owner in enumerate(joined) if owner == mark]):
            return owners
    return joined


def joined_owners(ways, owners, one, other):
    """Return the owners with the classes of two states of one core joined, and all that must be joined for it.

    Must be: the states to which states of one class lead by one symbol are in one class.
    """
    waiting = [(one, other)]
    while waiting:
        left, right = waiting.pop()
        kept, dropped = owners[left], owners[right]
        if kept != dropped:
            owners = [kept if owner == dropped else owner for owner in owners]
            waiting.extend([(way[1], beside[1]) for way, beside in zip(ways[left], ways[right])])
    return owners


def joins(grammar, states, ways, value):
    """Tell whether a value is a joining of some canonical states."""
    if not are_classes(value, len(states)):
        return False
    places = {number: place for place, numbers in enumerate(value) for number in numbers}
    for numbers in value:
        cores = {tuple(sorted(states[number])): True for number in numbers}
        leads = {tuple([(symbol, places[target]) for symbol, target in ways[number]]): True for number in numbers}
        if len(cores) > 1 or len(leads) > 1 or clash(grammar, states, numbers):
            return False
    return True


def are_classes(value, count):
    """Tell whether a value is an ascending tuple of classes of numbers below a count, each in just one."""
    if not is_tuple(value, 1, count):
        return False
    for numbers in value:
        if not is_tuple(numbers, 1, count) or not all(is_index(number, count) for number in numbers):
            return False
        if not is_ascending(numbers):
            return False
    return is_ascending(value) and sorted([number for numbers in value for number in numbers]) == list(range(count))


def clash(grammar, states, numbers):
    """Tell whether two of some states with one core clash anew.

    A shift takes no part: the states with one core have it or lack it together.
    """
    wholes = [item for item in sorted(states[numbers[0]]) if symbol_behind(grammar, item) is None]
    for place, one in enumerate(wholes):
        for other in wholes[:place]:
            without_other = 0
            without_one = 0
            for number in numbers:
                both = states[number][one] & states[number][other]
                without_other = without_other | (states[number][one] - both)
                without_one = without_one | (states[number][other] - both)
            if without_other & without_one:
                return True
    return False
