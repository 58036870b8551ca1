import random
import unittest

from shiftroads.checks import left_corners, productive, reached, ringed, trimmed, useless_rules
from shiftroads.errors import InvalidGrammar, InvalidSymbols
from shiftroads.firsts import is_sentence
from shiftroads.grammars import is_grammar
from shiftroads.trees import is_tree
from tests.makers import C, F, G, all_rows, chain_grammars, check_refusals, closed_pairs, frozen, letters_of, nothing
from tests.makers import plain_steps, random_grammars, random_open_tree, trees_by_height

RINGS = (("a",), "S", (("S", ("S", "S")), ("S", ("A",)), ("A", ("S",)), ("A", ()), ("S", ("a",))))
LOST = (("a", "b"), "S", (("S", ("A", "b")), ("A", ("A", "a")), ("B", ("b",)), ("S", ("S",))))


def grammars(seed, count):
    return [G, F, C, RINGS, LOST] + chain_grammars() + random_grammars(seed, count)


def plain_reached(grammar, rules=None):
    pairs = closed_pairs(plain_steps(grammar, "all", rules))
    return {grammar[1]} | {symbol for left, symbol in pairs if left == grammar[1]}


def plain_useless(grammar):
    """A second way: what is behind productive rules alone."""
    known = trees_by_height(grammar, grammar[0]) | set(grammar[0])
    whole = [rule for rule in grammar[2] if set(rule[1]) <= known]
    there = plain_reached(grammar, whole)
    return tuple(at for at, rule in enumerate(grammar[2]) if rule not in whole or rule[0] not in there)


class Checks(unittest.TestCase):
    def test_productive(self):
        for grammar in grammars(51, 300):
            self.assertEqual(productive(grammar), tuple(sorted(trees_by_height(grammar, grammar[0]))))

    def test_reached(self):
        for grammar in grammars(52, 300):
            self.assertEqual(reached(grammar), tuple(sorted(plain_reached(grammar))))

    def test_ringed(self):
        for grammar in grammars(53, 300):
            pairs = closed_pairs(plain_steps(grammar, "bare"))
            told = tuple(name for name in letters_of(grammar) if (name, name) in pairs)
            self.assertEqual(ringed(grammar), told)

    def test_left_corners(self):
        for grammar in grammars(54, 200):
            pairs = closed_pairs(plain_steps(grammar, "left"))
            for name in letters_of(grammar)[:10]:
                told = tuple(sorted(symbol for left, symbol in pairs if left == name))
                self.assertEqual(left_corners(grammar, name), told)

    def test_useless_rules(self):
        for grammar in grammars(55, 300):
            self.assertEqual(useless_rules(grammar), plain_useless(grammar))
            if grammar[1] not in productive(grammar):
                self.assertEqual(useless_rules(grammar), tuple(range(len(grammar[2]))))

    def test_trees_have_useful_rules(self):
        rng = random.Random(56)
        found = 0
        for grammar in grammars(57, 300):
            useless = useless_rules(grammar)
            tree = random_open_tree(rng, grammar, grammar[1], 6, 1.0)[0]
            if is_tree(grammar, grammar[1], tree):
                found += 1
                self.assertFalse(any(item in useless for item in tree if type(item) is int))
        self.assertGreater(found, 50)

    def test_trimmed(self):
        for grammar in grammars(58, 150):
            told = trimmed(grammar)
            if grammar[1] not in productive(grammar):
                self.assertIsNone(told)
                continue
            useless = useless_rules(grammar)
            self.assertEqual(told[:2], grammar[:2])
            self.assertEqual(told[2], tuple(rule for at, rule in enumerate(grammar[2]) if at not in useless))
            self.assertTrue(is_grammar(told))
            self.assertEqual(list(productive(told)), letters_of(told))
            self.assertTrue(set(letters_of(told)) <= set(reached(told)))
            self.assertEqual(useless_rules(told), ())
            self.assertEqual(trimmed(told), told)
            if len(grammar[2]) < 20:
                for row in all_rows(grammar[0], 3):
                    self.assertIs(is_sentence(told, row), is_sentence(grammar, row))

    def test_by_hand(self):
        self.assertEqual([productive(LOST), reached(LOST), useless_rules(LOST)], [("B",), ("A", "S", "a", "b"), (0, 1, 2, 3)])
        self.assertIsNone(trimmed(LOST))
        self.assertEqual(ringed(RINGS), ("A", "S"))
        self.assertEqual(left_corners(RINGS, "A"), ("A", "S", "a"))
        self.assertEqual(left_corners(F, "S"), ("A", "S", "a", "b"))
        self.assertEqual(left_corners(F, "A"), ("a",))
        self.assertEqual(ringed(F), ())
        self.assertEqual(ringed((("a",), "S", (("S", ("S", "S")), ("S", ("a",))))), ())
        self.assertEqual(ringed((("a",), "S", (("S", ("S", "S")), ("S", ())))), ("S",))

    def test_unchanged(self):
        for grammar in grammars(59, 20):
            before = frozen(grammar)
            for function in (productive, reached, ringed, useless_rules, trimmed):
                first = function(grammar)
                function(G)
                self.assertEqual(function(grammar), first)
            self.assertEqual(frozen(grammar), before)

    def test_refused(self):
        for function in (productive, reached, ringed, useless_rules, trimmed):
            check_refusals(self, function, (G,), (InvalidGrammar,), (nothing,))
        fine = (nothing, lambda value: type(value) is str and value in ("S", "N"))
        check_refusals(self, left_corners, (G, "S"), (InvalidGrammar, InvalidSymbols), fine)
        with self.assertRaises(InvalidSymbols):
            left_corners(G, "num")


if __name__ == "__main__":
    unittest.main()
