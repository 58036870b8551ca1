import random
import unittest

from shiftroads.errors import InvalidGrammar
from shiftroads.grammars import is_grammar, nonterminals_of
from tests.makers import C, F, G, bent, check_refusals, frozen, is_plain_name, junk, nothing, random_grammars


def is_plain_grammar(value):
    """A second way to tell grammars."""
    if not isinstance(value, tuple) or len(value) != 3:
        return False
    terminals, start, rules = value
    if not isinstance(terminals, tuple) or not isinstance(rules, tuple):
        return False
    if not 1 <= len(terminals) <= 40 or not 1 <= len(rules) <= 80:
        return False
    if not all(is_plain_name(name, "small") for name in terminals):
        return False
    if list(terminals) != sorted(set(terminals)):
        return False
    for rule in rules:
        if not isinstance(rule, tuple) or len(rule) != 2 or not is_plain_name(rule[0], "capital"):
            return False
        if not isinstance(rule[1], tuple) or len(rule[1]) > 8:
            return False
        if not all(is_plain_name(name, "small") or is_plain_name(name, "capital") for name in rule[1]):
            return False
    lefts = {left for left, _ in rules}
    if len(lefts) > 40 or len(set(rules)) < len(rules) or not is_plain_name(start, "capital") or start not in lefts:
        return False
    return all(name in lefts or name in terminals for _, right in rules for name in right)


def with_terminals(count):
    return (tuple(sorted(f"t{number}" for number in range(count))), "S", (("S", ()),))


def with_rules(count):
    """A grammar with unlike rules of one nonterminal."""
    rules = []
    for number in range(count):
        rules.append(("S", tuple(("a", "b")[number >> place & 1] for place in range(7))))
    return (("a", "b"), "S", tuple(rules))


def with_nonterminals(count):
    names = [f"N{number}" for number in range(count)]
    return (("a",), "N0", tuple((name, ("a",)) for name in names))


class Grammars(unittest.TestCase):
    def test_ordinary(self):
        for grammar in [G, F, C] + random_grammars(1, 200):
            self.assertIs(is_grammar(grammar), True)
            self.assertTrue(is_plain_grammar(grammar))

    def test_terminals(self):
        self.assertTrue(is_grammar(with_terminals(1)))
        self.assertTrue(is_grammar(with_terminals(40)))
        self.assertFalse(is_grammar(with_terminals(41)))
        self.assertFalse(is_grammar(with_terminals(0)))

    def test_names(self):
        for name, told in (("a", True), ("a" * 20, True), ("a" * 21, False), ("aZ09", True), ("", False), ("A", False)):
            self.assertIs(is_grammar(((name,), "S", (("S", (name,)),))), told, name)
        for name, told in (("A", True), ("A" * 20, True), ("A" * 21, False), ("Az09", True), ("", False), ("a", False)):
            self.assertIs(is_grammar((("b",), name, ((name, ("b",)),))), told, name)
        for name in ("9a", "a_b", "a b", "a-b", "\u00e9", "a\u00e9", "a%", "a\n", "_a", "a\u0661", "\u00c9"):
            self.assertFalse(is_grammar(((name,), "S", (("S", ()),))), name)
            self.assertFalse(is_grammar((("a",), name.title(), ((name.title(), ()),))), name)

    def test_right_sides(self):
        for length, told in ((0, True), (8, True), (9, False)):
            self.assertIs(is_grammar((("a",), "S", (("S", ("a",) * length),))), told)
            self.assertIs(is_grammar((("a",), "S", (("S", ("S",) * length),))), told)

    def test_number_of_rules(self):
        self.assertTrue(is_grammar(with_rules(1)))
        self.assertTrue(is_grammar(with_rules(80)))
        self.assertFalse(is_grammar(with_rules(81)))
        self.assertFalse(is_grammar((("a",), "S", ())))

    def test_number_of_nonterminals(self):
        self.assertTrue(is_grammar(with_nonterminals(40)))
        self.assertFalse(is_grammar(with_nonterminals(41)))

    def test_order_and_doubles(self):
        self.assertFalse(is_grammar((("b", "a"), "S", (("S", ()),))))
        self.assertFalse(is_grammar((("a", "a"), "S", (("S", ()),))))
        self.assertFalse(is_grammar((("a",), "S", (("S", ()), ("S", ())))))
        self.assertFalse(is_grammar((("a",), "S", (("S", ("a",)), ("S", ("a", "a")), ("S", ("a",))))))
        self.assertTrue(is_grammar((("aB", "aa"), "S", (("S", ()),))))

    def test_untold_symbols(self):
        self.assertFalse(is_grammar((("a",), "S", (("S", ("b",)),))))
        self.assertFalse(is_grammar((("a",), "S", (("S", ("A",)),))))
        self.assertFalse(is_grammar((("a",), "A", (("S", ("a",)),))))
        self.assertTrue(is_grammar((("a",), "S", (("S", ("A",)), ("A", ())))))

    def test_bent(self):
        for grammar in (G, C, (("a",), "S", (("S", ()),))):
            wrong = 0
            for value in bent(grammar):
                self.assertIs(is_grammar(value), is_plain_grammar(value), value)
                wrong += not is_plain_grammar(value)
            self.assertGreater(wrong, 50)

    def test_other_kinds(self):
        for value in junk():
            self.assertIs(is_grammar(value), False)
        self.assertFalse(is_grammar([*G]))
        self.assertFalse(is_grammar((list(G[0]),) + G[1:]))
        self.assertFalse(is_grammar(G[:2] + (list(G[2]),)))
        self.assertFalse(is_grammar(G + (G,)))


class Nonterminals(unittest.TestCase):
    def test_ascending(self):
        self.assertEqual(nonterminals_of(G), ("N", "S"))
        self.assertEqual(nonterminals_of(C), ("A", "B", "D", "S"))
        names = [f"N{number}" for number in range(40)]
        random.Random(3).shuffle(names)
        grammar = (("a",), names[0], tuple((name, ()) for name in names))
        self.assertEqual(nonterminals_of(grammar), tuple(sorted(names)))

    def test_refused(self):
        check_refusals(self, nonterminals_of, (G,), (InvalidGrammar,), (nothing,))

    def test_unchanged(self):
        before = frozen(C)
        self.assertEqual(nonterminals_of(C), nonterminals_of(C))
        self.assertEqual(frozen(C), before)


if __name__ == "__main__":
    unittest.main()
