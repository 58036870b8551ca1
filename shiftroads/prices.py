"""Least prices at which symbols stand for the parts of a row, and the trees that have them.

A price is one integer: a cost times a great power of two, and a number of items. Prices are added and compared as
integers, so costs go ahead. A price that is wanting is told as one that is greater than all others.
"""

BITS = 200
WANTING = 1 << 600


def wanting_prices(length, wanting):
    """Return a list, by begins, of lists, by ends, for all parts of a row of a length, in which all is wanting."""
    return [[wanting] * (length + 1) for _ in range(length + 1)]


def rest_prices(prices, right, end, wanting):
    """Return, for each place of a right side, the list of the prices of its rest for the parts up to an end.

    These lists go by begins; behind them stands one for the end of the right side.
    """
    rests = [[wanting] * end + [0]]
    for symbol in right[::-1]:
        behind = rests[-1]
        rows = prices[symbol]
        rest = []
        for begin in range(end + 1):
            rest.append(min([one + more for one, more in zip(rows[begin][begin:end + 1], behind[begin:])]))
        rests.append(rest)
    return rests[::-1]


def rule_prices(prices, empties, right, end, wanting):
    """Return the list, by begins, of the prices of a rule with a right side for the parts up to an end."""
    if not right:
        return [empties[begin][end] + 1 for begin in range(end + 1)]
    return [price + 1 for price in rest_prices(prices, right, end, wanting)[0]]


class LeastPrices:
    """The least prices of all nonterminals for all parts of a row.

    They are found from those of the terminals, and from those of the empty right side.
    """

    def __init__(self, rules, length, terminal_prices, empties):
        self.rules = rules
        self.length = length
        self.empties = empties
        self.prices = {name: terminal_prices[name] for name in terminal_prices}
        for left, _ in rules:
            self.prices[left] = wanting_prices(length, WANTING)
        self.ready = {}
        for end in range(length + 1):
            rests = [[[WANTING] * (end + 1) for _ in right] + [[WANTING] * end + [0]] for _, right in rules]
            for begin in range(end, -1, -1):
                self.shrink_part(rests, begin, end)

    def shrink_part(self, rests, begin, end):
        """Find the least prices for a part, those for all parts of it being found."""
        inner = [self.inner_prices(rule, rests[rule], begin, end) for rule in range(len(self.rules))]
        changed = True
        while changed:
            changed = False
            for rule, (left, right) in enumerate(self.rules):
                price = self.empties[begin][end] + 1
                if right:
                    price = self.end_price(right, rests[rule], inner[rule], begin, end) + 1
                if price < self.prices[left][begin][end]:
                    self.prices[left][begin][end] = price
                    changed = True

    def inner_prices(self, rule, rests, begin, end):
        """Return, for each place of a rule, the least price of its rest if the symbol there has neither end alone."""
        inner = []
        for place, symbol in enumerate(self.rules[rule][1]):
            row = self.prices[symbol][begin][begin + 1:end]
            behind = rests[place + 1][begin + 1:end]
            inner.append(min([one + more for one, more in zip(row, behind)], default=WANTING))
        return inner

    def end_price(self, right, rests, inner, begin, end):
        """Note the prices of all rests of a right side for a part, and return that of the whole one."""
        for place in range(len(right) - 1, -1, -1):
            row = self.prices[right[place]][begin]
            behind = rests[place + 1]
            rests[place][begin] = min(inner[place], row[begin] + behind[begin], row[end] + behind[end])
        return rests[0][begin]

    def choice(self, nonterminal, begin, end):
        """Return a rule, and the ends of the parts of its symbols, that give a nonterminal its price for a part."""
        key = (nonterminal, begin, end)
        if key not in self.ready:
            self.ready[key] = self.first_choice(nonterminal, begin, end)
        return self.ready[key]

    def first_choice(self, nonterminal, begin, end):
        """Find the first rule, with the ends, that gives a nonterminal its price for a part."""
        price = self.prices[nonterminal][begin][end]
        for rule, (left, right) in enumerate(self.rules):
            if left == nonterminal and rule_prices(self.prices, self.empties, right, end, WANTING)[begin] == price:
                return rule, self.cuts(right, begin, end)
        return None

    def cuts(self, right, begin, end):
        """Return the list of the ends of the parts of the symbols of a right side that give it its least price."""
        rests = rest_prices(self.prices, right, end, WANTING)
        cuts = []
        at = begin
        for place, symbol in enumerate(right):
            row = self.prices[symbol][at]
            for cut in range(at, end + 1):
                if row[cut] + rests[place + 1][cut] == rests[place][at]:
                    break
            cuts.append(cut)
            at = cut
        return cuts

    def grown(self, nonterminal, end):
        """Return the items of a tree of a nonterminal with the least price for the part up to an end, in order.

        Each item is (rule or terminal, begin, end).
        """
        items = []
        waiting = [(nonterminal, 0, end)]
        while waiting:
            symbol, begin, stop = waiting.pop()
            if symbol[0].islower():
                items.append((symbol, begin, stop))
                continue
            rule, cuts = self.choice(symbol, begin, stop)
            items.append((rule, begin, stop))
            places = [begin] + cuts
            waiting.extend(list(zip(self.rules[rule][1], places, cuts))[::-1])
        return items
