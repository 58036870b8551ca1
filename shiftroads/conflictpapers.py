"""Witnesses of deeds: trees and moments that show them, and the papers of conflicts."""

from heapq import heappop, heappush

from shiftroads.checkpapers import grown
from shiftroads.conflicts import check_deed, check_machine, check_state, check_token, deeds_by_token, is_deed, is_token
from shiftroads.errors import InvalidConflict, TooMany, Unproductive
from shiftroads.grammars import check_grammar, check_symbols, nonterminals_of
from shiftroads.moments import ACCEPT, SHIFT, deeds_in_order, moment_in
from shiftroads.trees import is_tree
from shiftroads.values import is_index, is_tuple

MOST_ITEMS = 20000
ANY = "any"
EMPTY = "empty"
BEGUN = "begun"
END = (-1, "", True)


def witness_along(grammar, context, token, deed):
    """Return a witness of a deed for a token along a context, or None if there is none."""
    check_grammar(grammar)
    check_symbols(grammar, context)
    check_token(grammar, token)
    check_deed(grammar, deed)
    check_sizes(grammar)
    leads = [{symbol: place + 1} for place, symbol in enumerate(context)] + [{}]
    return Search(grammar, leads, token).witness(len(context), deed)


def is_witness(grammar, machine, state, token, deed, value):
    """Tell whether any value is a witness of a deed for a token in a state of a machine."""
    check_grammar(grammar)
    check_machine(grammar, machine)
    check_state(machine, state)
    check_token(grammar, token)
    check_deed(grammar, deed)
    if not is_tuple(value, 2, 2) or not is_tree(grammar, grammar[1], value[0]):
        return False
    deeds = deeds_in_order(grammar, value[0])
    if not is_index(value[1], len(deeds)):
        return False
    context, behind, done = moment_in(grammar, value[0], deeds, value[1])
    return behind == token and done == deed and state_behind(leads_of(machine), 0, context) == state


def paper_of(grammar, machine, conflict):
    """Return a paper of a conflict: the tuple of a witness, or None, for each of its deeds."""
    check_grammar(grammar)
    check_machine(grammar, machine)
    if not is_conflict(grammar, machine, conflict):
        raise InvalidConflict("no conflict of the machine")
    check_sizes(grammar)
    state, token, deeds = conflict
    search = Search(grammar, leads_of(machine), token)
    return tuple([search.witness(state, deed) for deed in deeds])


def is_conflict(grammar, machine, value):
    """Tell whether a value is a conflict of a machine."""
    if not is_tuple(value, 3, 3) or not is_index(value[0], len(machine[0])) or not is_token(grammar, value[1]):
        return False
    if not is_tuple(value[2], 2, len(grammar[2]) + 2) or not all(is_deed(grammar, deed) for deed in value[2]):
        return False
    return list(value[2]) == deeds_by_token(grammar, machine, value[0])[value[1]]


def check_sizes(grammar):
    """Raise Unproductive for a nonterminal without trees, TooMany if a least tree has too many items."""
    sizes, _ = least_trees(grammar, grammar[0])
    for name in nonterminals_of(grammar):
        if name not in sizes:
            raise Unproductive(name)
    empties, _ = least_trees(grammar, ())
    if max(list(sizes.values()) + list(empties.values())) > MOST_ITEMS:
        raise TooMany(MOST_ITEMS)


def least_trees(grammar, leaves):
    """Return the sizes of least trees with some leaves alone, by symbols, and by nonterminals their first rules."""
    sizes = {name: 1 for name in leaves}
    rules = {}
    changed = True
    while changed:
        changed = False
        for rule, (left, right) in enumerate(grammar[2]):
            size = row_size(sizes, right)
            if size is not None and (left not in sizes or size + 1 < sizes[left]):
                sizes[left] = size + 1
                rules[left] = rule
                changed = True
    return sizes, rules


def row_size(sizes, symbols):
    """Return the sum of the sizes of some symbols, or None if one has none."""
    if not all(symbol in sizes for symbol in symbols):
        return None
    return sum(sizes[symbol] for symbol in symbols)


def leads_of(machine):
    """Return the list of a dict for each state from the symbols of its ways to the states to which these lead."""
    return [{symbol: target for symbol, target in ways} for ways in machine[1]]


def state_behind(leads, state, symbols):
    """Return the state to which some symbols lead from a state, or None."""
    for symbol in symbols:
        if symbol not in leads[state]:
            return None
        state = leads[state][symbol]
    return state


class LeastTrees:
    """Least trees of rows of symbols: any ones, ones without leaves, and ones whose leaves begin with a token."""

    def __init__(self, grammar, token):
        self.grammar = grammar
        self.sizes, self.rules = least_trees(grammar, grammar[0])
        self.empty_sizes, self.empty_rules = least_trees(grammar, ())
        self.begun_sizes = {} if token is None else {token: 1}
        self.begun_rules = {}
        while self.shrink_begun():
            pass

    def shrink_begun(self):
        """Note lesser trees whose leaves begin with the token, and tell whether there was one."""
        changed = False
        for rule, (left, right) in enumerate(self.grammar[2]):
            size, _ = self.begun_row(right)
            if size is not None and (left not in self.begun_sizes or size + 1 < self.begun_sizes[left]):
                self.begun_sizes[left] = size + 1
                self.begun_rules[left] = rule
                changed = True
        return changed

    def begun_row(self, symbols):
        """Return the least size of trees of a row whose leaves begin with the token, and in which one it stands.

        Both are None if there are no such trees.
        """
        least = place_of_least = None
        ahead = 0
        for place, symbol in enumerate(symbols):
            if symbol in self.begun_sizes:
                size = ahead + self.begun_sizes[symbol] + row_size(self.sizes, symbols[place + 1:])
                if least is None or size < least:
                    least, place_of_least = size, place
            if symbol not in self.empty_sizes:
                break
            ahead += self.empty_sizes[symbol]
        return least, place_of_least

    def row_cost(self, kind, symbols):
        """Return the least size of trees of a kind of a row of symbols, or None if there are none."""
        if kind == BEGUN:
            return self.begun_row(symbols)[0]
        return row_size(self.sizes if kind == ANY else self.empty_sizes, symbols)

    def row_items(self, kind, symbols):
        """Return the list of the items of least trees of a kind of a row of symbols."""
        if kind == BEGUN:
            return self.begun_items(symbols)
        rules = self.rules if kind == ANY else self.empty_rules
        return [item for symbol in symbols for item in grown(self.grammar, rules, symbol)]

    def begun_items(self, symbols):
        """Return the list of the items of least trees of a row whose leaves begin with the token."""
        place = self.begun_row(symbols)[1]
        items = self.row_items(EMPTY, symbols[:place])
        if symbols[place] in self.begun_rules:
            rule = self.begun_rules[symbols[place]]
            items.append(rule)
            items.extend(self.begun_items(self.grammar[2][rule][1]))
        else:
            items.append(symbols[place])
        return items + self.row_items(ANY, symbols[place + 1:])


class Search:
    """Looks for least witnesses for a token, whose contexts lead from state 0 to a state.

    A node is (state, nonterminal, told): by the finished parts the ways lead to the state, the nonterminal comes
    next, and, if told, the token is the first one behind it.
    """

    def __init__(self, grammar, leads, token):
        self.grammar = grammar
        self.leads = leads
        self.token = token
        self.least = LeastTrees(grammar, token)
        self.rests = {}
        for rule, (_, right) in enumerate(grammar[2]):
            for place in range(len(right)):
                for kind in (ANY, EMPTY, BEGUN):
                    self.rests[rule, place, kind] = self.least.row_cost(kind, right[place + 1:])

    def witness(self, goal, deed):
        """Return a witness of a deed whose context leads to a state, or None if there is none."""
        if deed == ACCEPT:
            return self.accepted(goal)
        begin = (0, self.grammar[1], self.token is None)
        comings = {begin: (0, None, None)}
        queue = [(0, begin)]
        while queue:
            size, node = heappop(queue)
            if node == END:
                break
            if size > comings[node][0]:
                continue
            for more, step, behind in self.steps(node, goal, deed):
                if behind not in comings or size + more < comings[behind][0]:
                    comings[behind] = (size + more, node, step)
                    heappush(queue, (size + more, behind))
        return self.witness_by(comings) if END in comings else None

    def accepted(self, goal):
        """Return a witness that a tree is accepted in a state, or None if there is none."""
        if self.token is not None or state_behind(self.leads, 0, (self.grammar[1],)) != goal:
            return None
        tree = tuple(self.least.row_items(ANY, (self.grammar[1],)))
        return (tree, len(tree))

    def steps(self, node, goal, deed):
        """Return the list of the steps from a node: how many items they add, what they do, the node behind."""
        begin, nonterminal, told = node
        found = []
        for rule, (left, right) in enumerate(self.grammar[2]):
            state = begin if left == nonterminal else None
            size = 1
            for place, symbol in enumerate(right):
                if state is None:
                    break
                if symbol not in self.grammar[0]:
                    found.extend(self.steps_into(rule, place, state, told, size))
                elif deed == SHIFT and symbol == self.token and state == goal:
                    found.append((size + 1 + self.rests[rule, place, ANY], (rule, place, ANY), END))
                size += self.least.sizes[symbol]
                state = self.leads[state].get(symbol)
            if state == goal and told and deed == ("reduce", rule):
                found.append((size, (rule, len(right), ANY), END))
        return found

    def steps_into(self, rule, place, state, told, size):
        """Return the list of the steps to the nonterminal at a place of a rule, behind finished parts of a size."""
        symbol = self.grammar[2][rule][1][place]
        found = []
        for kind in (EMPTY,) if told else (ANY, BEGUN):
            rest = self.rests[rule, place, kind]
            if rest is not None:
                found.append((size + rest, (rule, place, kind), (state, symbol, kind != ANY)))
        return found

    def witness_by(self, comings):
        """Return the witness to which the comings of nodes lead."""
        size, node, step = comings[END]
        if size > MOST_ITEMS:
            raise TooMany(MOST_ITEMS)
        steps = []
        while step is not None:
            steps.append(step)
            _, node, step = comings[node]
        ahead = []
        behind = []
        for rule, place, kind in steps[::-1]:
            right = self.grammar[2][rule][1]
            ahead.append(rule)
            ahead.extend(self.least.row_items(ANY, right[:place]))
            behind = self.least.row_items(kind, right[place + 1:]) + behind
        rule, place, _ = steps[0]
        shifted = list(self.grammar[2][rule][1][place:place + 1])
        # Done are the deeds of all items ahead but those of the rules that the moment is in.
        return (tuple(ahead + shifted + behind), len(ahead) - len(steps))
