import random
import time
import unittest

from shiftroads.errors import InvalidGrammar, InvalidRow, InvalidSymbols, TooMany
from shiftroads.firsts import empty_nonterminals, first_terminals, is_sentence
from shiftroads.trees import is_tree
from tests.makers import C, F, G, all_rows, check_refusals, error_of, letters_of, nothing, random_grammars
from tests.makers import random_open_tree, words_up_to

RINGS = (("a",), "S", (("S", ("S", "S")), ("S", ("A",)), ("A", ("S",)), ("A", ()), ("S", ("a",))))
DEAD = (("a", "b"), "S", (("S", ("a", "B")), ("B", ("b", "B")), ("S", ("B", "b"))))


def is_row(grammar, names):
    return lambda value: (
        type(value) is tuple and len(value) <= 400 and all(type(name) is str and name in names for name in value)
    )


def first_leaves(grammar, symbols, height):
    """A second way: the first leaves of rows of open trees of at most a height; None if there are no leaves."""
    known = {}

    def of_symbol(symbol, height):
        if (symbol, height) not in known:
            found = {symbol}
            if height:
                for left, right in grammar[2]:
                    if left == symbol:
                        found |= of_row(right, height - 1)
            known[symbol, height] = found
        return known[symbol, height]

    def of_row(row, height):
        found = {None}
        for symbol in row:
            if None not in found:
                break
            found = (found - {None}) | of_symbol(symbol, height)
        return found

    return of_row(symbols, height)


class Empties(unittest.TestCase):
    def test_against_words(self):
        for grammar in [G, F, C, RINGS, DEAD] + random_grammars(11, 300):
            words = words_up_to(grammar, 0)
            self.assertEqual(empty_nonterminals(grammar), tuple(sorted(name for name in words if () in words[name])))

    def test_chain(self):
        rules = [(f"N{number}", (f"N{number + 1}",) * 8) for number in range(39)]
        for order in (rules, rules[::-1]):
            grammar = (("a",), "N0", tuple(order) + (("N39", ()),))
            self.assertEqual(len(empty_nonterminals(grammar)), 40)
            grammar = (("a",), "N0", tuple(order) + (("N39", ("a",)),))
            self.assertEqual(empty_nonterminals(grammar), ())

    def test_refused(self):
        check_refusals(self, empty_nonterminals, (G,), (InvalidGrammar,), (nothing,))


class Firsts(unittest.TestCase):
    def test_against_trees(self):
        rng = random.Random(12)
        for grammar in [G, F, C, RINGS, DEAD] + random_grammars(13, 200):
            symbols = letters_of(grammar) + list(grammar[0])
            rows = [()] + [(symbol,) for symbol in symbols]
            rows += [tuple(rng.choice(symbols) for _ in range(rng.randint(2, 5))) for _ in range(4)]
            for row in rows:
                plain = first_leaves(grammar, row, 12)
                told = first_terminals(grammar, row)
                self.assertEqual(told, tuple(sorted(plain & set(grammar[0]))), (grammar, row))
            empty = tuple(name for name in letters_of(grammar) if None in first_leaves(grammar, (name,), 12))
            self.assertEqual(empty_nonterminals(grammar), empty)

    def test_nonterminals_without_trees(self):
        self.assertEqual(first_terminals(DEAD, ("S",)), ("a", "b"))
        self.assertEqual(first_terminals(DEAD, ("B", "a")), ("b",))
        self.assertEqual(first_terminals(C, ("B", "b")), ())
        self.assertEqual(first_terminals(C, ("A", "B", "b")), ())

    def test_long_rows(self):
        self.assertEqual(first_terminals(F, ("A",) * 399 + ("b",)), ("a", "b"))
        self.assertEqual(first_terminals(F, ("A",) * 400), ("a",))
        with self.assertRaises(InvalidSymbols):
            first_terminals(F, ("A",) * 401)

    def test_refused(self):
        fine = is_row(G, ("num", "plus", "S", "N"))
        errors = (InvalidGrammar, InvalidSymbols)
        check_refusals(self, first_terminals, (G, ("S", "num")), errors, (nothing, fine))


class Sentences(unittest.TestCase):
    def test_against_words(self):
        for grammar in [G, F, C, RINGS, DEAD] + random_grammars(14, 120):
            length = 5 if len(grammar[0]) < 3 else 4
            words = words_up_to(grammar, length)[grammar[1]]
            for row in all_rows(grammar[0], length):
                self.assertIs(is_sentence(grammar, row), row in words, (grammar, row))

    def test_leaves_of_trees(self):
        rng = random.Random(15)
        found = 0
        for grammar in [G, F, RINGS] * 30 + random_grammars(16, 200):
            tree, leaves, _ = random_open_tree(rng, grammar, grammar[1], 6, 1.0)
            if is_tree(grammar, grammar[1], tree) and len(leaves) <= 12:
                found += 1
                self.assertTrue(is_sentence(grammar, leaves))
        self.assertGreater(found, 50)

    def test_twelve(self):
        self.assertTrue(is_sentence(RINGS, ("a",) * 12))
        self.assertFalse(is_sentence(DEAD, ("a",) * 12))
        self.assertTrue(is_sentence(F, ("a",) * 6 + ("b",) * 6))
        self.assertFalse(is_sentence(F, ("a",) * 7 + ("b",) * 5))
        self.assertTrue(is_sentence(F, ("b",) * 12))
        for grammar in (G, F, RINGS, DEAD):
            for count in (13, 14, 400):
                with self.assertRaises(TooMany) as caught:
                    is_sentence(grammar, (grammar[0][0],) * count)
                self.assertEqual(caught.exception.limit, 12)

    def test_limit_comes_last(self):
        self.assertIsInstance(error_of(is_sentence, G, ("num",) * 401), InvalidRow)
        self.assertIsInstance(error_of(is_sentence, G, ("num",) * 20 + ("S",)), InvalidRow)
        self.assertIsInstance(error_of(is_sentence, G[:2], ("num",) * 20), InvalidGrammar)

    def test_many_long_rules(self):
        rng = random.Random(17)
        names = [f"N{number}" for number in range(40)]
        rules = {("N0", ("a",)): True, ("N1", ()): True}
        while len(rules) < 80:
            left = names[len(rules) % 40]
            rules[left, tuple(rng.choice(names + ["b"]) for _ in range(8))] = True
        grammar = (("a", "b"), "N0", tuple(rules))
        begin = time.monotonic()
        is_sentence(grammar, ("a", "b") * 6)
        rules = [(name, (behind,) * 8) for name, behind in zip(names, names[1:])] + [("N39", ("a",))]
        grammar = (("a", "b"), "N0", tuple(rules) + tuple((name, ()) for name in names))
        self.assertTrue(is_sentence(grammar, ("a",) * 12))
        self.assertFalse(is_sentence(grammar, ("a",) * 11 + ("b",)))
        self.assertLess(time.monotonic() - begin, 60)

    def test_refused(self):
        errors = (InvalidGrammar, InvalidRow)
        check_refusals(self, is_sentence, (G, ("num", "plus")), errors, (nothing, is_row(G, ("num", "plus"))))

    def test_same_again(self):
        first = [is_sentence(F, row) for row in all_rows(("a", "b"), 4)]
        is_sentence(G, ("num",))
        self.assertEqual(first, [is_sentence(F, row) for row in all_rows(("a", "b"), 4)])


if __name__ == "__main__":
    unittest.main()
