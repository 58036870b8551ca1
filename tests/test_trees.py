import random
import unittest

from shiftroads.errors import InvalidGrammar, InvalidSymbols, InvalidTree
from shiftroads.trees import is_open_tree, is_tree, leaves_of, parts_of
from tests.makers import C, F, G, bent, check_refusals, frozen, junk, letters_of, nothing, random_grammars
from tests.makers import random_open_tree

W = (0, 1, 2, "num", "plus", 2, "num")


def plain_end(grammar, symbol, value, at):
    """A second way to read an open tree: the place behind it, or None."""
    if at >= len(value):
        return None
    item = value[at]
    if type(item) is str:
        return at + 1 if item == symbol else None
    if type(item) is not int or not 0 <= item < len(grammar[2]) or grammar[2][item][0] != symbol:
        return None
    at += 1
    for name in grammar[2][item][1]:
        at = plain_end(grammar, name, value, at)
        if at is None:
            return None
    return at


def is_plain_open_tree(grammar, symbol, value):
    return type(value) is tuple and plain_end(grammar, symbol, value, 0) == len(value)


def is_plain_tree(grammar, symbol, value):
    if not is_plain_open_tree(grammar, symbol, value):
        return False
    return all(item in grammar[0] for item in value if type(item) is str)


def some_trees(count):
    """Random grammars, symbols of them, and random open trees of these with their leaves and parts."""
    rng = random.Random(5)
    found = []
    for grammar in [G, F, C] * 5 + random_grammars(6, count):
        for symbol in letters_of(grammar) + list(grammar[0]):
            for chance in (0.7, 1.0):
                found.append((grammar, symbol) + random_open_tree(rng, grammar, symbol, 5, chance))
    return found


class OpenTrees(unittest.TestCase):
    def test_made_ones(self):
        for grammar, symbol, tree, leaves, parts in some_trees(150):
            self.assertIs(is_open_tree(grammar, symbol, tree), True)
            self.assertIs(is_tree(grammar, symbol, tree), all(leaf in grammar[0] for leaf in leaves))
            self.assertEqual(leaves_of(grammar, symbol, tree), leaves)
            self.assertEqual(parts_of(grammar, symbol, tree), parts)

    def test_bent_ones(self):
        for grammar, symbol, tree, _, _ in some_trees(6):
            if len(tree) > 12:
                continue
            for value in bent(tree):
                told = is_plain_open_tree(grammar, symbol, value)
                self.assertIs(is_open_tree(grammar, symbol, value), told, value)
                self.assertIs(is_tree(grammar, symbol, value), is_plain_tree(grammar, symbol, value), value)
                if not told:
                    with self.assertRaises(InvalidTree):
                        leaves_of(grammar, symbol, value)
                    with self.assertRaises(InvalidTree):
                        parts_of(grammar, symbol, value)

    def test_of_another_symbol(self):
        self.assertFalse(is_open_tree(G, "N", W))
        self.assertFalse(is_open_tree(G, "N", ("S",)))
        self.assertFalse(is_open_tree(G, "num", (2, "num")))
        self.assertTrue(is_open_tree(G, "S", ("S",)))
        self.assertFalse(is_tree(G, "S", ("S",)))

    def test_true_is_no_index(self):
        self.assertTrue(is_tree(G, "S", (1, 2, "num")))
        self.assertFalse(is_tree(G, "S", (True, 2, "num")))
        self.assertFalse(is_open_tree(F, "S", (False, "A", "S", "b")))
        self.assertTrue(is_open_tree(F, "S", (0, "A", "S", "b")))
        self.assertFalse(is_tree(G, "S", (-2, 2, "num")))
        self.assertFalse(is_tree(G, "S", (3, 2, "num")))
        self.assertFalse(is_tree(G, "S", ()))
        self.assertFalse(is_tree(G, "S", [1, 2, "num"]))

    def test_other_kinds(self):
        for value in junk():
            self.assertIs(is_open_tree(G, "S", value), value == ("S",) and type(value) is tuple)
            self.assertIs(is_tree(G, "S", value), False)

    def test_long(self):
        grammar = (("a",), "S", (("S", ("a", "S")), ("S", ())))
        tree = (0, "a") * 9999 + (1,)
        self.assertTrue(is_tree(grammar, "S", tree))
        self.assertEqual(leaves_of(grammar, "S", tree), ("a",) * 9999)
        self.assertEqual(parts_of(grammar, "S", tree), [("a",), tree[2:]])
        grammar = (("a",), "S", (("S", ("S", "a")), ("S", ())))
        tree = (0,) * 9999 + (1,) + ("a",) * 9999
        self.assertTrue(is_tree(grammar, "S", tree))
        self.assertFalse(is_tree(grammar, "S", tree[1:]))
        self.assertFalse(is_tree(grammar, "S", tree[:-1]))
        self.assertEqual(parts_of(grammar, "S", tree), [tree[1:-1], ("a",)])

    def test_empty_right_sides(self):
        self.assertEqual(parts_of(F, "S", (1,)), [])
        self.assertEqual(leaves_of(F, "S", (1,)), ())
        self.assertEqual(parts_of(F, "S", (0, 3, 1, "b")), [(3,), (1,), ("b",)])
        self.assertEqual(parts_of(F, "b", ("b",)), [])
        self.assertEqual(parts_of(F, "S", ("S",)), [])

    def test_returned_list_is_new(self):
        first = parts_of(G, "S", W)
        first.append("x")
        first[0] = None
        self.assertEqual(parts_of(G, "S", W), [(1, 2, "num"), ("plus",), (2, "num")])


class Refusals(unittest.TestCase):
    def test_all(self):
        def is_symbol(value):
            return type(value) is str and value in ("num", "plus", "S", "N")

        def is_open(value):
            return is_plain_open_tree(G, "S", value)

        before = frozen(W)
        for function in (is_open_tree, is_tree):
            check_refusals(self, function, (G, "S", W), (InvalidGrammar, InvalidSymbols, None), (nothing, is_symbol, None))
        for function in (leaves_of, parts_of):
            errors = (InvalidGrammar, InvalidSymbols, InvalidTree)
            check_refusals(self, function, (G, "S", W), errors, (nothing, is_symbol, is_open))
        self.assertEqual(frozen(W), before)


if __name__ == "__main__":
    unittest.main()
