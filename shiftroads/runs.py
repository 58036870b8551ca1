"""The machine of a table at work, deed by deed."""

from shiftroads.tablerows import deeds_by_state, gotos_by_state

MOST_DEEDS = 5000


class Run:
    """A stack of states, and the deeds that were done so far.

    The log has for each deed (item, first, base, begin, end): the token that it shifts, or the rule that it reduces
    by; the number of the first deed that makes its tree; the last state ahead of that one; the places ahead of that
    one and at the end of the tree. For each tree on the stack, firsts has the number of its first deed.
    """

    def __init__(self, rules, deeds, gotos):
        self.rules = rules
        self.deeds = deeds
        self.gotos = gotos
        self.states = [0]
        self.firsts = []
        self.log = []
        self.place = 0

    def step(self, token):
        """Do the deed for the next token, and return its word; if none is done, return "refused" or "long"."""
        deed = self.next_deed(token)
        if deed is None:
            return "refused"
        if len(self.log) == MOST_DEEDS:
            return "long"
        if deed[0] == "shift":
            self.firsts.append(len(self.log))
            self.log.append((token, len(self.log), self.states[-1], self.place, self.place + 1))
            self.states.append(deed[1])
            self.place += 1
        elif deed[0] == "reduce":
            self.reduce(deed[1])
        return deed[0]

    def next_deed(self, token):
        """Return the deed that can be done for the next token, or None if this is refused."""
        deed = self.deeds[self.states[-1]].get(token)
        if deed is None or deed[0] == "refuse":
            return None
        if deed[0] == "accept":
            return deed if self.firsts else None
        if deed[0] == "reduce":
            left, right = self.rules[deed[1]]
            if len(right) > len(self.firsts) or left not in self.gotos[self.states[-1 - len(right)]]:
                return None
        return deed

    def reduce(self, rule):
        """Make one tree of the last trees, by a rule for which this can be done."""
        left, right = self.rules[rule]
        kept = len(self.firsts) - len(right)
        first = self.firsts[kept] if right else len(self.log)
        begin = self.log[first][3] if right else self.place
        del self.states[kept + 1:]
        del self.firsts[kept:]
        self.log.append((rule, first, self.states[-1], begin, self.place))
        self.firsts.append(first)
        self.states.append(self.gotos[self.states[-1]][left])

    def take_over(self, entries, change):
        """Do all deeds of a piece at once: entries of another log, the places being changed by a number."""
        offset = len(self.log) - entries[-1][1]
        self.firsts.append(len(self.log))
        for item, first, base, begin, end in entries:
            self.log.append((item, first + offset, base, begin + change, end + change))
        self.states.append(self.gotos[self.states[-1]][self.rules[entries[-1][0]][0]])
        self.place = entries[-1][4] + change

    def drive(self, token):
        """Do all deeds that a token causes, and return the word of the last one, or "refused" or "long"."""
        word = self.step(token)
        while word == "reduce":
            word = self.step(token)
        return word

    def read_on(self, row):
        """Do all deeds that the rest of a row and the end cause, and return "accept", "refused" or "long"."""
        word = "shift"
        while word == "shift":
            word = self.drive(row[self.place] if self.place < len(row) else None)
        return word

    def stack_tree(self, number):
        """Return the tree on the stack with a number."""
        end = self.firsts[number + 1] if number + 1 < len(self.firsts) else len(self.log)
        parts = []
        for item, _, _, _, _ in self.log[self.firsts[number]:end]:
            kept = len(parts) if isinstance(item, str) else len(parts) - len(self.rules[item][1])
            joined = (item,)
            for part in parts[kept:]:
                joined = joined + part
            del parts[kept:]
            parts.append(joined)
        return parts[0]

    def copy(self):
        """Return a run that stands alike."""
        run = Run(self.rules, self.deeds, self.gotos)
        run.states = list(self.states)
        run.firsts = list(self.firsts)
        run.log = list(self.log)
        run.place = self.place
        return run


def fresh_run(grammar, table):
    """Return a run of the machine of a table that has done nothing yet."""
    return Run(grammar[2], deeds_by_state(table), gotos_by_state(table))
