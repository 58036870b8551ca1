"""The nodes of the forest of a row, with their packings, and least trees of them."""

from heapq import heappop, heappush

from shiftroads.columns import Columns
from shiftroads.errors import TooMany
from shiftroads.values import bit_places

MOST_PACKINGS = 20000


class Forest:
    """All nodes that are reached from the start over a row, each with the ascending list of its packings."""

    def __init__(self, grammar, row):
        self.rules = grammar[2]
        self.root = (grammar[1], 0, len(row))
        self.packings = {}
        self.chart = Columns(grammar)
        for token in row:
            self.chart.take(token)
        if self.chart.is_done():
            self.reach_all()

    def reach_all(self):
        """Find the packings of all nodes that are reached from the root."""
        many = 0
        waiting = [self.root]
        while waiting:
            node = waiting.pop()
            if node in self.packings:
                continue
            found = []
            for rule in self.chart.heads[node[0]]:
                self.find_packings(found, node, rule, MOST_PACKINGS - many)
            many += len(found)
            self.packings[node] = sorted(found)
            for packing in found:
                waiting.extend(self.nodes_in(node, packing))

    def find_packings(self, found, node, rule, most):
        """Add all packings of a node by a rule to those that are found, by cuts from the last one to the first."""
        _, begin, end = node
        right = self.rules[rule][1]
        if not self.stands(rule, len(right), begin, end):
            return
        waiting = [(len(right), end, ())]
        while waiting:
            place, at, cuts = waiting.pop()
            if place == 0:
                found.append((rule, cuts))
                if len(found) > most:
                    raise TooMany(MOST_PACKINGS)
                continue
            # An item behind a terminal has come there by just this token.
            origins = [at - 1] if right[place - 1][0].islower() else self.origins(right[place - 1], at)
            for origin in origins:
                if self.stands(rule, place - 1, begin, origin):
                    waiting.append((place - 1, origin, (at,) + cuts))

    def stands(self, rule, place, origin, column):
        """Tell whether an item stands in a column of the chart."""
        return (self.chart.columns[column].get((rule, place), 0) >> origin) & 1 == 1

    def origins(self, nonterminal, end):
        """Return the list of the places from which on a nonterminal derives the tokens up to an end."""
        return bit_places(self.chart.whole[end].get(nonterminal, 0))

    def parts_in(self, node, packing):
        """Return the list of the parts (symbol, begin, end) of a packing of a node."""
        rule, cuts = packing
        return list(zip(self.rules[rule][1], (node[1],) + cuts, cuts))

    def nodes_in(self, node, packing):
        """Return the list of the nodes of the nonterminals of a packing of a node."""
        return [part for part in self.parts_in(node, packing) if part[0][0].isupper()]

    def counts(self):
        """Return a dict with the number of trees of each node, or None if there is a ring."""
        counts = {}
        opened = {}
        waiting = [self.root] if self.packings else []
        while waiting:
            node = waiting[-1]
            if node in counts:
                waiting.pop()
            elif node in opened:
                # All nodes behind this one have been looked at, so one without a count is in a ring.
                count = self.count_by(node, counts)
                if count is None:
                    return None
                counts[node] = count
                waiting.pop()
            else:
                opened[node] = True
                for packing in self.packings[node]:
                    waiting.extend([other for other in self.nodes_in(node, packing) if other not in counts])
        return counts

    def count_by(self, node, counts):
        """Return the number of trees of a node by those of others, or None if one of these is wanting."""
        total = 0
        for packing in self.packings[node]:
            count = self.packing_count(node, packing, counts)
            if count is None:
                return None
            total += count
        return total

    def packing_count(self, node, packing, counts):
        """Return the number of trees of a packing of a node, or None if that of a node in it is wanting."""
        count = 1
        for other in self.nodes_in(node, packing):
            if other not in counts:
                return None
            count = count * counts[other]
        return count


class LeastTwo:
    """For each node of a forest the packing of a least tree, and how a least one of its other trees is made.

    The first are pairs (size, packing); the others are triples (size, packing, place): the part at the place has one
    of its other trees, or none has if the place is -1.
    """

    def __init__(self, forest):
        self.forest = forest
        self.bests = {}
        self.others = {}
        self.uses = {node: [] for node in forest.packings}
        for node in forest.packings:
            for packing in forest.packings[node]:
                for place, part in enumerate(forest.parts_in(node, packing)):
                    if part in self.uses:
                        self.uses[part].append((node, packing, place))
        self.find_bests()
        self.find_others()

    def find_bests(self):
        """Find least trees, from the least ones on."""
        sizes = {}
        missing = {}
        queue = []
        for node in self.forest.packings:
            for packing in self.forest.packings[node]:
                many = len(self.forest.nodes_in(node, packing))
                sizes[node, packing] = 1 + len(packing[1]) - many
                missing[node, packing] = many
                if many == 0:
                    heappush(queue, (sizes[node, packing], node, packing))
        while queue:
            size, node, packing = heappop(queue)
            if node in self.bests:
                continue
            self.bests[node] = (size, packing)
            for user, other, _ in self.uses[node]:
                sizes[user, other] += size
                missing[user, other] -= 1
                if missing[user, other] == 0:
                    heappush(queue, (sizes[user, other], user, other))

    def find_others(self):
        """Find least trees among the others, from the least ones on."""
        queue = []
        for node in self.forest.packings:
            for packing in self.forest.packings[node]:
                if packing != self.bests[node][1]:
                    nodes = self.forest.nodes_in(node, packing)
                    size = 1 + len(packing[1]) - len(nodes) + sum([self.bests[other][0] for other in nodes])
                    heappush(queue, (size, node, packing, -1))
        while queue:
            size, node, packing, place = heappop(queue)
            if node in self.others:
                continue
            self.others[node] = (size, packing, place)
            for user, other, at in self.uses[node]:
                if other == self.bests[user][1]:
                    heappush(queue, (self.bests[user][0] - self.bests[node][0] + size, user, other, at))

    def best_tree(self):
        """Return a least tree of the root."""
        return self.grown([(self.forest.root, False)])

    def other_tree(self):
        """Return a least one of the other trees of the root."""
        return self.grown([(self.forest.root, True)])

    def grown(self, waiting):
        """Return the tree of some parts, each told with whether it has its least tree or one of the others."""
        items = []
        while waiting:
            part, is_other = waiting.pop()
            if part not in self.bests:
                items.append(part[0])
                continue
            packing, at = self.others[part][1:] if is_other else (self.bests[part][1], -1)
            items.append(packing[0])
            parts = self.forest.parts_in(part, packing)
            waiting.extend([(inner, place == at) for place, inner in enumerate(parts)][::-1])
        return tuple(items)
