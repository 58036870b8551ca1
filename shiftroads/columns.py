"""The columns of a chart, filled one behind the other."""


class Columns:
    """The columns of a chart of the tokens that were taken so far.

    A column is a dict from (rule, place) to the origins, as bits. For each column, waits has a dict from the symbols
    that come next to the list of the pairs (rule, place) ahead of them.
    """

    def __init__(self, grammar):
        self.rules = grammar[2]
        self.rights = {-1: (grammar[1],)}
        self.heads = {left: [] for left, _ in grammar[2]}
        for rule, (left, right) in enumerate(grammar[2]):
            self.rights[rule] = right
            self.heads[left].append(rule)
        self.columns = []
        self.waits = []
        self.whole = []
        self.add_column([(-1, 0, 1)])

    def take(self, token):
        """Add the column behind a token."""
        last = self.columns[-1]
        found = [(rule, place + 1, last[rule, place]) for rule, place in self.waits[-1].get(token, [])]
        self.add_column(found)

    def add_column(self, found):
        """Add the column that has some items (rule, place, origins), and what follows from them."""
        self.columns.append({})
        self.waits.append({})
        self.whole.append({})
        fresh = []
        for rule, place, origins in found:
            self.note(fresh, rule, place, origins)
        while fresh:
            rule, place, origins = fresh.pop()
            right = self.rights[rule]
            if place < len(right):
                self.go_into(fresh, rule, place, origins)
            elif rule != -1:
                self.go_on(fresh, self.rules[rule][0], origins)

    def note(self, fresh, rule, place, origins):
        """Note an item in the last column, and what is new of it among what is fresh."""
        column = self.columns[-1]
        right = self.rights[rule]
        if (rule, place) not in column:
            column[rule, place] = 0
            if place < len(right):
                self.waits[-1].setdefault(right[place], []).append((rule, place))
        new = origins & ~column[rule, place]
        if new:
            column[rule, place] = column[rule, place] | new
            fresh.append((rule, place, new))

    def go_into(self, fresh, rule, place, origins):
        """Note what follows from an item with a next symbol, within the last column."""
        symbol = self.rights[rule][place]
        here = 1 << (len(self.columns) - 1)
        for other in self.heads.get(symbol, []):
            self.note(fresh, other, 0, here)
        # If the symbol was found to derive no tokens here, that was told to items ahead of this one alone.
        if self.whole[-1].get(symbol, 0) & here:
            self.note(fresh, rule, place + 1, origins)

    def go_on(self, fresh, left, origins):
        """Note what follows if a nonterminal derives the tokens from some origins up to the last column."""
        known = self.whole[-1].get(left, 0)
        self.whole[-1][left] = known | origins
        new = origins & ~known
        while new:
            low = new & -new
            new = new ^ low
            origin = low.bit_length() - 1
            column = self.columns[origin]
            for rule, place in list(self.waits[origin].get(left, [])):
                self.note(fresh, rule, place + 1, column[rule, place])

    def goes_on(self):
        """Tell whether the last column has items."""
        return len(self.columns[-1]) > 0

    def is_done(self):
        """Tell whether the start derives the tokens that were taken."""
        return (-1, 1) in self.columns[-1]
