"""Which ups of a tree read which of its downs, over all trees, and trees with rings."""

from shiftroads.attributes import check_scheme, names_by
from shiftroads.errors import TooMany
from shiftroads.grammars import check_grammar, nonterminals_of
from shiftroads.instances import reads_in
from shiftroads.values import bit_places

MOST_CHOICES = 2000
MOST_ITEMS = 2000


def relations(grammar, scheme):
    """Return, for each nonterminal, the ascending tuple of the relations of its trees without rings."""
    check_grammar(grammar)
    check_scheme(grammar, scheme)
    found = RelationSearch(grammar, scheme).found
    return tuple([tuple(sorted(found[name])) for name in nonterminals_of(grammar)])


def ring_tree(grammar, scheme):
    """Return a nonterminal and a tree of it with a ring, or None if there is none."""
    check_grammar(grammar)
    check_scheme(grammar, scheme)
    search = RelationSearch(grammar, scheme)
    if search.ring is None:
        return None
    size, rule, choice = search.ring
    if size > MOST_ITEMS:
        raise TooMany(MOST_ITEMS)
    return (grammar[2][rule][0], search.grown(rule, choice))


class RelationSearch:
    """All relations of trees without rings, and a way to a tree with a ring if there is one.

    A choice is a tuple with the number of a relation, as they were found, for each nonterminal of a right side.
    """

    def __init__(self, grammar, scheme):
        self.rules = grammar[2]
        self.names = names_by(grammar, scheme)
        self.found = {name: [] for name in self.names}
        self.ways = {name: [] for name in self.names}
        self.ring = None
        self.looked = {}
        self.numbers = []
        self.reads = []
        for rule, row in zip(self.rules, scheme[1]):
            self.number(rule, row)
        while self.look_around():
            pass

    def number(self, rule, row):
        """Number the names at the places of a rule, and note as bits which ones each of them reads by equations."""
        left, right = rule
        numbers = {}
        for place, symbol in enumerate((left,) + right):
            if symbol in self.names:
                ups, downs = self.names[symbol]
                for name in ups + downs:
                    numbers[place, name] = len(numbers)
        reads = [0] * len(numbers)
        for target, expression in row:
            for source in reads_in(expression):
                # Leaves have worths of their own.
                if source in numbers:
                    reads[numbers[target]] = reads[numbers[target]] | 1 << numbers[source]
        self.numbers.append(numbers)
        self.reads.append(reads)

    def look_around(self):
        """Look at all rules with all new choices, and tell whether there was one."""
        looked = len(self.looked)
        for rule, (_, right) in enumerate(self.rules):
            for choice in self.choices(right):
                if (rule, choice) not in self.looked:
                    self.looked[rule, choice] = True
                    self.look_at(rule, choice)
        return len(self.looked) > looked

    def choices(self, right):
        """Return the list of all choices for a right side; raise TooMany if they are too many."""
        choices = [()]
        counts = [len(self.found[symbol]) for symbol in right if symbol in self.names]
        if 0 in counts:
            return []
        for count in counts:
            choices = [choice + (number,) for choice in choices for number in range(count)]
            if len(choices) > MOST_CHOICES:
                raise TooMany(MOST_CHOICES)
        return choices

    def look_at(self, rule, choice):
        """Note the relation of the trees of a rule with a choice, or that they have a ring."""
        left, right = self.rules[rule]
        size = 1 + len(right) - len(choice)
        numbers = self.numbers[rule]
        reads = list(self.reads[rule])
        for place, (symbol, number) in self.chosen(right, choice):
            size += self.ways[symbol][number][0]
            for down, up in self.found[symbol][number]:
                reads[numbers[place, up]] = reads[numbers[place, up]] | 1 << numbers[place, down]
        reach = reach_of(reads)
        if reach is None:
            if self.ring is None or size < self.ring[0]:
                self.ring = (size, rule, choice)
            return
        ups, downs = self.names[left]
        relation = tuple(sorted([(down, up) for down in downs for up in ups
                                 if (reach[numbers[0, up]] >> numbers[0, down]) & 1]))
        if relation not in self.found[left]:
            self.found[left].append(relation)
            self.ways[left].append((size, rule, choice))

    def chosen(self, right, choice):
        """Return the list of the pairs of a place of a nonterminal and of this with the number of its relation."""
        places = [place + 1 for place, symbol in enumerate(right) if symbol in self.names]
        return [(place, (right[place - 1], number)) for place, number in zip(places, choice)]

    def grown(self, rule, choice):
        """Return the tree of a rule with a choice."""
        items = []
        waiting = [(rule, choice)]
        while waiting:
            part, numbers = waiting.pop()
            if isinstance(part, str):
                items.append(part)
                continue
            items.append(part)
            right = self.rules[part][1]
            parts = [(symbol, ()) for symbol in right]
            for place, (symbol, number) in self.chosen(right, numbers):
                parts[place - 1] = self.ways[symbol][number][1:]
            waiting.extend(parts[::-1])
        return tuple(items)


def reach_of(reads):
    """Return for each number the bits of all that it reads, perhaps through others; None if there is a ring."""
    reach = list(reads)
    done = 0
    waiting = list(range(len(reads)))
    while waiting:
        later = []
        for number in waiting:
            if reads[number] & ~done:
                later.append(number)
                continue
            for other in bit_places(reads[number]):
                reach[number] = reach[number] | reach[other]
            done = done | 1 << number
        if len(later) == len(waiting):
            return None
        waiting = later
    return reach
