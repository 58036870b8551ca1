import random
import unittest

from shiftroads.errors import InvalidGrammar, InvalidNumber, InvalidTree, UnlikeLeaves
from shiftroads.moments import deeds_of, moment_of, parting
from shiftroads.trees import is_tree
from tests.makers import C, EG, F, G, GG, PLUS, RINGS, all_trees, bent, check_refusals, check_steady, error_of, nothing
from tests.makers import plain_moments, random_grammars, random_open_tree

GL, GR = (0, 1, "v", 2, "u", "v"), (1, "v", 0, 2, "u", "v")


def trees_of(seed, count):
    """Pairs of a grammar and of one of its trees of the start."""
    rng = random.Random(seed)
    found = []
    for grammar in [G, F, C, EG, GG, RINGS, PLUS] * 6 + random_grammars(seed, count):
        tree = random_open_tree(rng, grammar, grammar[1], 6, 1.0)[0]
        if len(tree) < 200 and is_tree(grammar, grammar[1], tree):
            found.append((grammar, tree))
    return found


class Moments(unittest.TestCase):
    def test_against_the_words(self):
        pairs = trees_of(161, 300)
        self.assertGreater(len(pairs), 100)
        for grammar, tree in pairs:
            moments = plain_moments(grammar, tree)
            self.assertEqual(deeds_of(grammar, tree), tuple(moment[2] for moment in moments))
            self.assertEqual(len(moments), len(tree) + 1)
            for number, moment in enumerate(moments):
                self.assertEqual(moment_of(grammar, tree, number), moment)
            for number in (-1, len(moments)):
                self.assertIs(type(error_of(moment_of, grammar, tree, number)), InvalidNumber)

    def test_ends(self):
        for grammar, tree in trees_of(162, 50):
            self.assertEqual(moment_of(grammar, tree, len(tree)), ((grammar[1],), None, ("accept",)))
            self.assertEqual(moment_of(grammar, tree, 0)[0], ())

    def test_empty_right_sides(self):
        empty = (("a",), "S", (("S", ("A", "S", "A")), ("S", ()), ("A", ()), ("A", ("a",))))
        self.assertEqual(deeds_of(empty, (1,)), (("reduce", 1), ("accept",)))
        tree = (0, 2, 1, 3, "a")
        self.assertEqual(
            deeds_of(empty, tree), (("reduce", 2), ("reduce", 1), ("shift",), ("reduce", 3), ("reduce", 0), ("accept",)),
        )
        self.assertEqual(moment_of(empty, tree, 2), (("A", "S"), "a", ("shift",)))
        self.assertEqual(moment_of(empty, tree, 4), (("A", "S", "A"), None, ("reduce", 0)))

    def test_long_trees(self):
        tree = (0, "b") * 9999 + (1, "c")
        deeds = deeds_of(EG, tree)
        self.assertEqual(deeds, (("shift",),) * 10000 + (("reduce", 1),) + (("reduce", 0),) * 9999 + (("accept",),))
        self.assertEqual(moment_of(EG, tree, 10000), (("b",) * 9999 + ("c",), None, ("reduce", 1)))
        left = (("a", "b"), "S", (("S", ("S", "a")), ("S", ("b",))))
        tree = (0,) * 9999 + (1, "b") + ("a",) * 9999
        self.assertEqual(moment_of(left, tree, 5002), (("S",), "a", ("shift",)))
        self.assertEqual(parting(left, tree, tree), None)


class Parting(unittest.TestCase):
    def test_by_hand(self):
        self.assertEqual(parting(GG, GL, GR), 3)
        self.assertIsNone(parting(GG, GL, GL))
        self.assertIs(type(error_of(parting, GG, GL, (2, "u"))), UnlikeLeaves)
        rings = (("a",), "S", (("S", ("S",)), ("S", ("a",))))
        self.assertEqual(parting(rings, (1, "a"), (0, 1, "a")), 2)
        self.assertEqual(parting(rings, (0, 0, 1, "a"), (0, 1, "a")), 3)

    def test_all_pairs(self):
        parted = alike = 0
        for grammar in [GG, RINGS, PLUS, F, C] + random_grammars(163, 60):
            trees = sorted(all_trees(grammar, 6)[grammar[1]], key=repr)[:25]
            for one in trees:
                for other in trees:
                    leaves = [[item for item in tree if type(item) is str] for tree in (one, other)]
                    if leaves[0] != leaves[1]:
                        self.assertIs(type(error_of(parting, grammar, one, other)), UnlikeLeaves)
                        continue
                    deeds = [[moment[2] for moment in plain_moments(grammar, tree)] for tree in (one, other)]
                    told = [at for at, (deed, beside) in enumerate(zip(*deeds)) if deed != beside]
                    self.assertEqual(parting(grammar, one, other), told[0] if told else None)
                    self.assertEqual(parting(grammar, one, other) is None, one == other)
                    parted += bool(told)
                    alike += not told
        self.assertGreater(parted, 100)
        self.assertGreater(alike, 100)


class Refusals(unittest.TestCase):
    def test_kinds(self):
        fine = (nothing, nothing, lambda value: type(value) is int and 0 <= value <= 6)
        check_refusals(self, deeds_of, (GG, GL), (InvalidGrammar, InvalidTree), fine)
        check_refusals(self, moment_of, (GG, GL, 0), (InvalidGrammar, InvalidTree, InvalidNumber), fine)
        check_refusals(self, parting, (GG, GL, GR), (InvalidGrammar, InvalidTree, InvalidTree), (nothing,) * 3)
        for number in (-1, 7, True, None, "0", 10 ** 119):
            self.assertIs(type(error_of(moment_of, GG, GL, number)), InvalidNumber)

    def test_trees(self):
        for value in [("D",), ("u",), (0, "D", "v"), (2, "v"), (2, "u", "u"), (3,), (True, "v", 2, "u"), [2, "u"], (-1,), (2,)] + bent(GL):
            right = type(value) is tuple and not any(type(item) is bool for item in value) and is_tree(GG, "D", value)
            self.assertIs(type(error_of(deeds_of, GG, value)), type(None) if right else InvalidTree, value)
            self.assertIs(type(error_of(moment_of, GG, value, 0)), type(None) if right else InvalidTree)
            if not right:
                self.assertIs(type(error_of(parting, GG, value, GL)), InvalidTree)
                self.assertIs(type(error_of(parting, GG, GL, value)), InvalidTree)
        self.assertIs(type(error_of(deeds_of, G, (2, "num"))), InvalidTree)

    def test_steady(self):
        check_steady(self, deeds_of, [(GG, GL), (GG, GR), (EG, (1, "c"))])
        check_steady(self, moment_of, [(GG, GL, 3), (GG, GR, 2), (EG, (1, "c"), 0)])
        check_steady(self, parting, [(GG, GL, GR), (GG, GR, GL), (EG, (1, "c"), (1, "c"))])


if __name__ == "__main__":
    unittest.main()
