"""Passages of the machine with defaults: whether a token that a default does not look at is taken later on."""

from shiftroads.tablerows import backs_of, comings_of, default_rules, deeds_by_state, filled_deeds, gotos_by_state
from shiftroads.tablerows import having_gotos
from shiftroads.values import bit_places

MOST_REDUCTIONS = 100
OPEN = (0, "")


class Passages:
    """The passages of a table, looked at one after the other for one token at a time."""

    def __init__(self, grammar, table):
        self.rules = grammar[2]
        self.entries = deeds_by_state(table)
        self.defaults = default_rules(table)
        self.deeds = filled_deeds(grammar, table)
        self.gotos = gotos_by_state(table)
        self.backs = backs_of(comings_of(table))
        self.having = having_gotos(table)

    def any_open(self, token):
        """Tell whether a default leads to an open passage with a token for which its state has no entry."""
        seen = {}
        waiting = []
        for state, default in enumerate(self.defaults):
            if default != -1 and token not in self.entries[state]:
                left, right = self.rules[default]
                waiting.extend(self.new_passages(seen, left, self.backs[len(right)][state]))
        # A passage that is not open by itself is open if some other one to which it leads is.
        while waiting:
            state, nonterminal = waiting.pop()
            told = self.outcome(state, nonterminal, token)
            if told == OPEN:
                return True
            if told is not None:
                steps, left = told
                waiting.extend(self.new_passages(seen, left, self.backs[steps][state]))
        return False

    def new_passages(self, seen, left, bits):
        """Note some states as seen with a nonterminal, and return the list of the passages that are new by this."""
        new = bits & self.having.get(left, 0) & ~seen.get(left, 0)
        seen[left] = seen.get(left, 0) | new
        return [(state, left) for state in bit_places(new)]

    def outcome(self, state, nonterminal, token):
        """Return OPEN for a passage that is open by itself, and None for one that is closed by itself.

        For another one, return how many states it wants more, and the left side for which it wants them.
        """
        behind = [self.gotos[state][nonterminal]]
        for _ in range(MOST_REDUCTIONS + 1):
            deed = self.deeds[behind[-1]].get(token)
            if deed is None or deed[0] == "refuse":
                return None
            if deed[0] != "reduce":
                return OPEN
            left, right = self.rules[deed[1]]
            if len(right) > len(behind):
                return (len(right) - len(behind), left)
            behind = behind[:len(behind) - len(right)]
            last = behind[-1] if behind else state
            if left not in self.gotos[last]:
                return None
            behind.append(self.gotos[last][left])
        return OPEN
