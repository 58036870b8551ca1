import unittest

from shiftroads.errors import InvalidGrammar, InvalidSymbols
from shiftroads.follows import follow_lot
from tests.makers import C, EG, F, FC, FL, G, GG, LOST, RINGS, STARS, check_refusals, check_steady, error_of, fan, flat
from tests.makers import is_nonterminal_in, letters_of, nothing, plain_canonical, plain_firsts, plain_lot, random_grammars
from tests.makers import row_firsts


def grammars(seed, count):
    return [EG, G, F, C, FL, FC, GG, RINGS, LOST, STARS] + random_grammars(seed, count)


def plain_follows(grammar):
    """A second way: sets of tokens that grow until nothing changes."""
    firsts = plain_firsts(grammar)
    follows = {grammar[1]: {None}}
    before = None
    while before != follows:
        before = {name: set(follows[name]) for name in follows}
        for left, right in grammar[2]:
            for place, symbol in enumerate(right):
                if left in before and symbol not in grammar[0]:
                    behind = row_firsts(firsts, right[place + 1:])
                    more = (behind - {""}) | (before[left] if "" in behind else set())
                    follows.setdefault(symbol, set()).update(more)
    return {left: follows.get(left, set()) for left, _ in grammar[2]}


def derived_follows(grammar, length, turns):
    """What stands behind nonterminals in rows that are really derived, as long as they are short."""
    found = {left: set() for left, _ in grammar[2]}
    seen = {(grammar[1],)}
    waiting = [(grammar[1],)]
    for _ in range(turns):
        rows = set()
        for row in waiting:
            for place, symbol in enumerate(row):
                if symbol in found:
                    token = row[place + 1] if place + 1 < len(row) else None
                    if token not in found:
                        found[symbol].add(token)
                    for left, right in grammar[2]:
                        if left == symbol and len(row) + len(right) <= length + 1:
                            rows.add(row[:place] + right + row[place + 1:])
        waiting = sorted(rows - seen)[:4000]
        seen |= rows
    return found


class Follows(unittest.TestCase):
    def test_against_a_plain_way(self):
        for grammar in grammars(121, 300):
            follows = plain_follows(grammar)
            for name in letters_of(grammar):
                self.assertEqual(follow_lot(grammar, name), plain_lot(follows[name]), (grammar, name))

    def test_against_derived_rows(self):
        same = 0
        for grammar in grammars(122, 60):
            found = derived_follows(grammar, 5, 6)
            for name in letters_of(grammar):
                told = follow_lot(grammar, name)
                self.assertTrue(found[name] <= set(told), (grammar, name))
                same += found[name] == set(told)
        self.assertGreater(same, 120)

    def test_against_canonical_states(self):
        for grammar in grammars(123, 80):
            found = {name: set() for name in letters_of(grammar)}
            for state in plain_canonical(grammar)[0]:
                for rule, place, token in state:
                    if rule != -1 and place == 0 and token != "":
                        found[grammar[2][rule][0]].add(token)
            for name in found:
                self.assertEqual(follow_lot(grammar, name), plain_lot(found[name]))

    def test_by_hand(self):
        self.assertEqual([follow_lot(G, "N"), follow_lot(G, "S")], [("plus", None)] * 2)
        self.assertEqual([follow_lot(F, "A"), follow_lot(F, "S")], [("a", "b"), ("b", None)])
        self.assertEqual([follow_lot(LOST, name) for name in "ABDS"], [("b",), ("b", None), (), (None,)])
        self.assertEqual(follow_lot(EG, "S"), (None,))
        dead = (("a", "b"), "S", (("S", ("A", "B", "a")), ("B", ("B",)), ("A", ("b",))))
        self.assertEqual([follow_lot(dead, name) for name in "ABS"], [(), ("a",), (None,)])
        unreached = (("a", "b"), "S", (("S", ("a",)), ("A", ("B", "b")), ("B", ("A", "a", "S"))))
        self.assertEqual([follow_lot(unreached, name) for name in "ABS"], [(), (), (None,)])
        last = (("a",), "S", (("S", ("A", "E", "E")), ("A", ("a",)), ("E", ())))
        self.assertEqual([follow_lot(last, name) for name in "AES"], [(None,), (None,), (None,)])

    def test_no_limit(self):
        self.assertEqual(follow_lot(flat(602), "S"), (None,))
        grammar = fan(20, 300, 0)
        self.assertEqual(follow_lot(grammar, "X"), grammar[0][:20])

    def test_refused(self):
        check_refusals(self, follow_lot, (G, "N"), (InvalidGrammar, InvalidSymbols), (nothing, is_nonterminal_in(G)))
        for name in ("num", "X", None, ("N",), 0):
            self.assertIs(type(error_of(follow_lot, G, name)), InvalidSymbols)
        check_steady(self, follow_lot, [(G, "N"), (F, "A"), (LOST, "D"), (G, "S")])


if __name__ == "__main__":
    unittest.main()
