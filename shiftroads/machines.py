"""Word machines: made of regular trees, made least, run, and told apart by words."""

from shiftroads.errors import InvalidMachine, InvalidNumber, InvalidRegex, TooMany
from shiftroads.regexes import add_tree, check_text, free_nodes, is_regex
from shiftroads.values import is_ascending, is_index, is_integer, is_letters, is_tuple

MOST_STATES = 400
MOST_TREES = 40


def is_word_machine(value):
    """Tell whether any value is a machine."""
    return is_tuple(value, 1, MOST_STATES) and all(is_state(state, len(value)) for state in value)


def is_state(value, count):
    """Tell whether a value is a state of a machine with a number of states."""
    if not is_tuple(value, 2, 2) or not is_integer(value[0]) or not -1 <= value[0] < MOST_TREES:
        return False
    ways = value[1]
    if not isinstance(ways, tuple) or not all(is_way(way, count) for way in ways):
        return False
    letters = "".join([way[0] for way in ways])
    targets = [way[1] for way in ways]
    if len(set(letters)) < len(letters) or len(set(targets)) < len(targets):
        return False
    return is_ascending(ways)


def is_way(value, count):
    """Tell whether a value is a pair of letters and of the index of one of so many states."""
    return is_tuple(value, 2, 2) and is_letters(value[0]) and is_index(value[1], count)


def check_machine(machine):
    """Raise InvalidMachine for what is no machine."""
    if not is_word_machine(machine):
        raise InvalidMachine("no machine")


def check_state(machine, state):
    """Raise InvalidNumber for what is no index of a state of a machine."""
    if not is_index(state, len(machine)):
        raise InvalidNumber("no state of the machine")


def word_machine(trees):
    """Return a machine of a tuple of 1 to 40 regular trees."""
    if not is_tuple(trees, 1, MOST_TREES) or not all(is_regex(tree) for tree in trees):
        raise InvalidRegex("no tuple of 1 to 40 regular trees")
    net = [("", []) for _ in trees]
    begins = [add_tree(net, tree, rule) for rule, tree in enumerate(trees)]
    numbers = {tuple(free_nodes(net, begins)): 0}
    found = list(numbers)
    states = []
    while len(states) < len(found):
        nodes = found[len(states)]
        targets = {}
        for letter, behind in letter_ways(net, nodes):
            if behind not in numbers:
                numbers[behind] = len(found)
                found.append(behind)
            targets[letter] = numbers[behind]
        if len(found) > MOST_STATES:
            raise TooMany(MOST_STATES)
        states.append((nodes[0] if nodes[0] < len(trees) else -1, gathered(targets)))
    return tuple(states)


def letter_ways(net, nodes):
    """Return the list of the pairs of a letter, ascending, and of the tuple of the nodes to which it leads."""
    nexts = {}
    for node in nodes:
        for letter in net[node][0]:
            nexts.setdefault(letter, []).extend(net[node][1])
    known = {}
    ways = []
    for letter in sorted(nexts):
        key = tuple(nexts[letter])
        if key not in known:
            known[key] = tuple(free_nodes(net, key))
        ways.append((letter, known[key]))
    return ways


def gathered(targets):
    """Return the ways of a state whose targets are told for each letter."""
    letters = {}
    for letter in sorted(targets):
        letters[targets[letter]] = letters.get(targets[letter], "") + letter
    return tuple(sorted([(letters[state], state) for state in letters]))


def letter_targets(machine):
    """Return a list with, for each state, the dict from its letters, ascending, to their targets."""
    rows = []
    for _, ways in machine:
        targets = {letter: state for letters, state in ways for letter in letters}
        rows.append({letter: targets[letter] for letter in sorted(targets)})
    return rows


def least_machine(machine):
    """Return the least machine of the same meaning."""
    check_machine(machine)
    rows = letter_targets(machine)
    classes = alike_classes(machine, rows)
    numbers = {classes[0]: 0}
    found = [0]
    states = []
    while len(states) < len(found):
        state = found[len(states)]
        targets = {}
        for letter, target in rows[state].items():
            if classes[target] not in numbers:
                numbers[classes[target]] = len(found)
                found.append(target)
            targets[letter] = numbers[classes[target]]
        states.append((machine[state][0], gathered(targets)))
    return tuple(states)


def alike_classes(machine, rows):
    """Return a list with a number for each state; alike states, and no others, have the same one."""
    classes = numbered([(machine[state][0], "".join(row)) for state, row in enumerate(rows)])
    count = 0
    while count < max(classes) + 1:
        count = max(classes) + 1
        signs = []
        for state, row in enumerate(rows):
            signs.append((classes[state], tuple([classes[target] for target in row.values()])))
        classes = numbered(signs)
    return classes


def numbered(signs):
    """Return a list with a number for each of some values; like ones have the same number."""
    numbers = {}
    for sign in signs:
        numbers.setdefault(sign, len(numbers))
    return [numbers[sign] for sign in signs]


def run_word(machine, state, word):
    """Return the state at the end of the run over a word from a state, or None if it stops ahead of it."""
    check_machine(machine)
    check_state(machine, state)
    check_text(word)
    rows = letter_targets(machine)
    for letter in word:
        if letter not in rows[state]:
            return None
        state = rows[state][letter]
    return state


def parting_word(machine, one, other):
    """Return a shortest word that tells two states from one another, or None if they are alike."""
    check_machine(machine)
    check_state(machine, one)
    check_state(machine, other)
    rows = letter_targets(machine)
    words = {(one, other): ""}
    waiting = [(one, other)]
    while waiting:
        for left, right in waiting:
            if machine[left][0] != machine[right][0]:
                return words[left, right]
        found = []
        for left, right in waiting:
            word = words[left, right]
            for letter in sorted(set(list(rows[left]) + list(rows[right]))):
                if letter not in rows[left] or letter not in rows[right]:
                    return word + letter
                pair = (rows[left][letter], rows[right][letter])
                if pair not in words:
                    words[pair] = word + letter
                    found.append(pair)
        waiting = found
    return None
