import itertools
import random
import unittest

from shiftroads.errors import Endless, InvalidGrammar, InvalidNumber, InvalidRow, InvalidTree, TooMany
from shiftroads.forests import forest, some_trees, tree_at, tree_count, tree_number
from shiftroads.trees import is_tree, leaves_of
from tests.makers import BARE, C, EG, F, FC, G, GG, HG, J, LEVELED, LISTS, LOST, MIRROR, PLUS, RINGS, all_trees, bent, check_refusals
from tests.makers import check_steady, check_too_many, error_of, junk, nothing, plain_spans, random_grammars, small_rows

UNIT = (("a",), "S", (("S", ("S",)), ("S", ("a",))))
KNOWN = [HG, G, F, C, EG, FC, GG, RINGS, LOST, J, MIRROR, LISTS, LEVELED, PLUS, BARE, UNIT]
MANY = 10 ** 60


def plain_forest(grammar, row):
    """By the words of [56]: all nodes that are reached, with all packings, over all cuts."""
    spans = plain_spans(grammar, row)
    found = {}
    waiting = [(grammar[1], 0, len(row))] if (0, len(row)) in spans[grammar[1]] else []
    while waiting:
        node = waiting.pop()
        if node in found:
            continue
        name, begin, end = node
        packings = []
        for rule, (left, right) in enumerate(grammar[2]):
            if left != name:
                continue
            if not right:
                packings += [(rule, ())] if begin == end else []
                continue
            for inner in itertools.combinations_with_replacement(range(begin, end + 1), len(right) - 1):
                cuts = inner + (end,)
                if all((one, other) in spans[symbol] for symbol, one, other in zip(right, (begin,) + cuts, cuts)):
                    packings.append((rule, cuts))
                    waiting += [(symbol, one, other) for symbol, one, other in zip(right, (begin,) + cuts, cuts) if symbol not in grammar[0]]
        found[node] = tuple(sorted(packings))
    return tuple(sorted(found.items()))


def node_parts(grammar, node, packing):
    places = (node[1],) + packing[1]
    return list(zip(grammar[2][packing[0]][1], places, places[1:]))


def has_ring(grammar, told):
    """Whether a node is reached from itself: by closing what each one reaches."""
    nodes = dict(told)
    reached = {
        node: {part for packing in nodes[node] for part in node_parts(grammar, node, packing) if part in nodes} for node in nodes
    }
    for middle in nodes:
        for node in nodes:
            if middle in reached[node]:
                reached[node] |= reached[middle]
    return any(node in reached[node] for node in nodes)


def trees_in_order(grammar, nodes, part, most):
    """By the words of [57]: the first trees of a node, in order."""
    if part not in nodes:
        return [(part[0],)]
    found = []
    for packing in nodes[part]:
        rows = [(packing[0],)]
        lists = [trees_in_order(grammar, nodes, inner, most) for inner in node_parts(grammar, part, packing)]
        for row in itertools.product(*lists):
            found.append((packing[0],) + tuple(item for tree in row for item in tree))
            if len(found) > most:
                return found
    return found


def cases(seed, count, most=5):
    rng = random.Random(seed)
    return [(grammar, row) for grammar in KNOWN + random_grammars(seed + 1, count) for row in small_rows(rng, grammar, 4, most)]


def doubling(many):
    """A grammar with 2 ** many trees for (): a chain of many links, each doubled."""
    rules = []
    for at in range(many):
        rules.append((f"N{at}", (f"N{at + 1}", f"M{at}")))
    for at in range(many):
        rules += [(f"M{at}", ()), (f"M{at}", ("E",))]
    return (("a",), "N0", tuple(rules) + ((f"N{many}", ()), ("E", ())))


class Forests(unittest.TestCase):
    def test_plain(self):
        sizes = {0: 0, 1: 0, 2: 0}
        for grammar, row in cases(411, 250):
            told = forest(grammar, row)
            self.assertEqual(told, plain_forest(grammar, row), (grammar, row))
            self.assertIs(type(told), tuple)
            sizes[min(2, sum(len(packings) > 1 for _, packings in told)) if told else 0] += 1
        self.assertGreater(min(sizes.values()), 50)

    def test_wide(self):
        for grammar in random_grammars(413, 80, most_right=6):
            for row in small_rows(random.Random(414), grammar, 3, 3):
                self.assertEqual(forest(grammar, row), plain_forest(grammar, row))

    def test_no_sentence(self):
        for grammar, row in ((HG, ()), (HG, ("a",)), (LOST, ("b",)), (J, ())):
            self.assertEqual(forest(grammar, row), ())
            self.assertEqual(tree_count(grammar, row), 0)
            self.assertEqual(some_trees(grammar, row), (None, None))
            for number in (0, 1, -1):
                self.assertIs(type(error_of(tree_at, grammar, row, number)), InvalidNumber)
            self.assertIs(type(error_of(tree_number, grammar, row, (1, "b"))), InvalidTree)


class Numbers(unittest.TestCase):
    def test_all_numbers(self):
        seen = {"endless": 0, "one": 0, "many": 0}
        for grammar, row in cases(415, 250):
            told = plain_forest(grammar, row)
            if has_ring(grammar, told):
                seen["endless"] += 1
                self.assertIsNone(tree_count(grammar, row))
                for number in (0, -1, 10 ** 100):
                    self.assertIs(type(error_of(tree_at, grammar, row, number)), Endless)
                for value in (None, (0,), 5):
                    self.assertIs(type(error_of(tree_number, grammar, row, value)), Endless)
                continue
            root = (grammar[1], 0, len(row))
            trees = trees_in_order(grammar, dict(told), root, 60) if told else []
            if len(trees) > 60:
                trees = trees[:20]
                self.assertGreater(tree_count(grammar, row), 60)
            else:
                self.assertEqual(tree_count(grammar, row), len(trees))
            for number, tree in enumerate(trees):
                self.assertEqual(tree_at(grammar, row, number), tree)
                self.assertEqual(tree_number(grammar, row, tree), number)
                self.assertTrue(is_tree(grammar, grammar[1], tree))
                self.assertEqual(leaves_of(grammar, grammar[1], tree), row)
            for number in (-1, tree_count(grammar, row), 10 ** 119, -(10 ** 119)):
                self.assertIs(type(error_of(tree_at, grammar, row, number)), InvalidNumber)
            seen["one"] += len(trees) == 1
            seen["many"] += len(trees) > 1
        self.assertGreater(min(seen.values()), 60)

    def test_against_all_trees(self):
        found = 0
        for grammar, row in cases(416, 100, 4):
            trees = [tree for tree in all_trees(grammar, 7)[grammar[1]] if leaves_of(grammar, grammar[1], tree) == row]
            count = tree_count(grammar, row)
            if count is not None:
                numbers = [tree_number(grammar, row, tree) for tree in trees]
                self.assertEqual(len(set(numbers)), len(trees))
                self.assertTrue(all(0 <= number < count for number in numbers))
                self.assertEqual([tree_at(grammar, row, number) for number in numbers], trees)
                found += len(trees)
        self.assertGreater(found, 150)

    def test_brackets(self):
        # The ways to put brackets: 1, 1, 2, 5, 14, ..
        ways = [1]
        for count in range(1, 40):
            ways.append(sum(ways[at] * ways[count - 1 - at] for at in range(count)))
        for count in (1, 2, 3, 7, 20, 40):
            self.assertEqual(tree_count(J, ("a",) * count), ways[count - 1])
        row = ("a",) * 40
        for number in (0, 1, 10 ** 9, ways[39] // 2, ways[39] - 2, ways[39] - 1):
            tree = tree_at(J, row, number)
            self.assertEqual(leaves_of(J, "S", tree), row)
            self.assertEqual(tree_number(J, row, tree), number)
        self.assertIs(type(error_of(tree_at, J, row, ways[39])), InvalidNumber)

    def test_ten_to_the_sixty(self):
        for more, right in ((0, True), (1, False)):
            grammar = power_grammar(more)
            if right:
                self.assertEqual(tree_count(grammar, ()), MANY)
                for number in (0, 1, 12345678901234567890, MANY - 1):
                    tree = tree_at(grammar, (), number)
                    self.assertEqual(tree_number(grammar, (), tree), number)
                self.assertIs(type(error_of(tree_at, grammar, (), MANY)), InvalidNumber)
                self.assertIs(type(error_of(tree_number, grammar, (), (0,))), InvalidTree)
            else:
                check_too_many(self, MANY, tree_count, grammar, ())
                for number in (0, -1, MANY, 10 ** 100):
                    check_too_many(self, MANY, tree_at, grammar, (), number)
                for value in ((), None, (0,), tree_at(power_grammar(0), (), 0)):
                    check_too_many(self, MANY, tree_number, grammar, (), value)
                self.assertEqual(len(forest(grammar, ())), 6)
        self.assertEqual(tree_count(doubling(12), ()), 2 ** 12)

    def test_twenty_thousand_packings(self):
        # J over n tokens has n (n * n - 1) // 6 packings by its first rule, and n by its second one.
        row = ("a",) * 49
        self.assertEqual(sum(len(packings) for _, packings in forest(J, row)), 49 * (49 * 49 - 1) // 6 + 49)
        row = ("a",) * 50
        self.assertGreater(50 * (50 * 50 - 1) // 6 + 50, 20000)
        for function in (forest, tree_count, some_trees):
            check_too_many(self, 20000, function, J, row)
        check_too_many(self, 20000, tree_at, J, row, -5)
        check_too_many(self, 20000, tree_number, J, row, None)
        self.assertIs(type(error_of(tree_at, J, row, True)), InvalidNumber)
        self.assertIs(type(error_of(tree_at, J, row, None)), InvalidNumber)
        check_too_many(self, 20000, forest, J, ("a",) * 400)
        # Just 20,000 of them, and one more.
        for more in (0, 1):
            grammar, row = flat_packings(more)
            if more:
                check_too_many(self, 20000, forest, grammar, row)
            else:
                self.assertEqual(sum(len(packings) for _, packings in forest(grammar, row)), 20000)

    def test_long_trees(self):
        grammar = deep_grammar(5)
        size = sum(8 ** at for at in range(5))
        tree = tree_at(grammar, (), 0)
        self.assertEqual((len(tree), tree_number(grammar, (), tree), some_trees(grammar, ())), (size, 0, (tree, None)))
        for depth in (6, 30):
            grammar = deep_grammar(depth)
            self.assertEqual(tree_count(grammar, ()), 1)
            check_too_many(self, 20000, tree_at, grammar, (), 0)
            self.assertIs(type(error_of(tree_at, grammar, (), 1)), InvalidNumber)
            check_too_many(self, 20000, some_trees, grammar, ())


class LeastTrees(unittest.TestCase):
    def test_against_all_trees(self):
        seen = {0: 0, 1: 0, 2: 0, "endless": 0}
        for grammar, row in cases(417, 200, 4):
            trees = [tree for tree in all_trees(grammar, 8)[grammar[1]] if tuple(one for one in tree if type(one) is str) == row]
            sizes = sorted(len(tree) for tree in trees)
            told = some_trees(grammar, row)
            self.assertIs(type(told), tuple)
            for at in range(2):
                if at < len(sizes):
                    self.assertEqual(len(told[at]), sizes[at], (grammar, row))
                elif told[at] is not None:
                    self.assertGreater(len(told[at]), 8)
                if told[at] is not None:
                    self.assertTrue(is_tree(grammar, grammar[1], told[at]))
                    self.assertEqual(leaves_of(grammar, grammar[1], told[at]), row)
            self.assertTrue(told[0] is None or told[0] != told[1])
            count = tree_count(grammar, row)
            self.assertEqual(sum(tree is not None for tree in told), 2 if count is None else min(count, 2))
            seen["endless" if count is None else min(count, 2)] += 1
        self.assertGreater(min(seen.values()), 40)

    def test_against_all_numbers(self):
        found = 0
        for grammar, row in cases(418, 150):
            count = tree_count(grammar, row)
            if count is not None and 2 <= count <= 200:
                sizes = sorted(len(tree_at(grammar, row, number)) for number in range(count))
                self.assertEqual([len(tree) for tree in some_trees(grammar, row)], sizes[:2])
                found += 1
        self.assertGreater(found, 30)

    def test_by_hand(self):
        self.assertEqual(some_trees(UNIT, ("a",)), ((1, "a"), (0, 1, "a")))
        self.assertEqual(some_trees(HG, ("a", "b")), ((0, "a", 1, "b"), None))
        trees = some_trees(J, ("a", "a", "a"))
        self.assertEqual(sorted(trees), sorted(tree_at(J, ("a",) * 3, number) for number in range(2)))

    def test_twenty_thousand_items(self):
        # The other tree is too long, the least one is not.
        grammar = deep_grammar(6)
        grammar = (grammar[0], "S", (("S", ()), ("S", ("N0",))) + grammar[2])
        self.assertEqual(tree_count(grammar, ()), 2)
        self.assertEqual(tree_at(grammar, (), 0), (0,))
        check_too_many(self, 20000, tree_at, grammar, (), 1)
        check_too_many(self, 20000, some_trees, grammar, ())
        grammar = deep_grammar(5)
        grammar = (grammar[0], "S", (("S", ()), ("S", ("N0",))) + grammar[2])
        self.assertEqual([len(tree) for tree in some_trees(grammar, ())], [1, 1 + sum(8 ** at for at in range(5))])
        for size in (19999, 20000, 20001):
            # The other one of two trees.
            grammar = just_long(size - 1)
            grammar = (grammar[0], "S", (("S", ()), ("S", ("T0",))) + grammar[2])
            self.assertEqual(tree_count(grammar, ()), 2)
            if size > 20000:
                check_too_many(self, 20000, some_trees, grammar, ())
            else:
                self.assertEqual([len(tree) for tree in some_trees(grammar, ())], [1, size])
            grammar = just_long(size)
            self.assertEqual(tree_count(grammar, ()), 1)
            if size > 20000:
                check_too_many(self, 20000, tree_at, grammar, (), 0)
                check_too_many(self, 20000, some_trees, grammar, ())
            else:
                self.assertEqual(len(tree_at(grammar, (), 0)), size)
                self.assertEqual(len(some_trees(grammar, ())[0]), size)
                self.assertEqual(tree_number(grammar, (), tree_at(grammar, (), 0)), 0)


class Refusals(unittest.TestCase):
    def test_kinds(self):
        row = lambda value: type(value) is tuple and len(value) <= 400 and all(type(one) is str and one in J[0] for one in value)
        two = ("a", "a")
        tree = (0, 1, "a", 1, "a")
        for function in (forest, tree_count, some_trees):
            check_refusals(self, function, (J, two), (InvalidGrammar, InvalidRow), (nothing, row))
            check_steady(self, function, [(J, two), (UNIT, ("a",)), (J, ()), (RINGS, ("a",))])
        errors = (InvalidGrammar, InvalidRow, InvalidNumber)
        check_refusals(self, tree_at, (J, two, 0), errors, (nothing, row, lambda value: type(value) is int and value == 0))
        check_steady(self, tree_at, [(J, two, 0), (J, ("a",) * 4, 3), (J, ("a",), 0)])
        errors = (InvalidGrammar, InvalidRow, InvalidTree)
        check_refusals(self, tree_number, (J, two, tree), errors, (nothing, row, nothing))
        check_steady(self, tree_number, [(J, two, tree), (J, ("a",), (1, "a"))])
        for bad in (("S",), ["a"], "a", (None,), ("b",)):
            for function in (forest, tree_count, some_trees):
                self.assertIs(type(error_of(function, J, bad)), InvalidRow)
            self.assertIs(type(error_of(tree_at, J, bad, None)), InvalidRow)
            self.assertIs(type(error_of(tree_number, J, bad, None)), InvalidRow)

    def test_wrong_numbers(self):
        for bad in (True, False, None, "0", (0,), [0], (), 1.0):
            for row in (("a", "a"), (), ("a",) * 50):
                self.assertIs(type(error_of(tree_at, J, row, bad)), InvalidNumber)
            self.assertIs(type(error_of(tree_at, UNIT, ("a",), bad)), InvalidNumber)
        self.assertIs(type(error_of(tree_at, UNIT, ("a",), -1)), Endless)
        self.assertIs(type(error_of(tree_at, J, ("a", "a"), 1)), InvalidNumber)

    def test_bent_trees(self):
        row = ("a",) * 3
        for number in range(2):
            tree = tree_at(J, row, number)
            for value in bent(tree):
                # Some are other trees of the row.
                right = type(value) is tuple and not any(type(item) is bool for item in value) and is_tree(J, "S", value)
                right = right and leaves_of(J, "S", value) == row
                told = error_of(tree_number, J, row, value)
                self.assertIs(type(told), type(None) if right else InvalidTree, value)
        for value in ((1, "a"), (0, 1, "a", 1, "a"), ("a",) * 3, row, (0, 0, 1, "a", 1, "a", 1, "S"), (0, 0, 1, "a", 1, "a", "S")):
            self.assertIs(type(error_of(tree_number, J, row, value)), InvalidTree)


def just_long(size):
    """One tree for (), of so many items, some thousands."""
    sizes = {"H": 1, "E": 9, "B": 73, "A": 585, "K": 4681}
    rules = [("H", ())] + [(one, (other,) * 8) for one, other in zip("EBAK", "HEBA")]
    left = size
    at = 0
    while left > 20:
        names = []
        left -= 1
        while len(names) < 7 and left > 20:
            name = max((name for name in sizes if sizes[name] < left), key=lambda name: sizes[name])
            names.append(name)
            left -= sizes[name]
        rules.append((f"T{at}", tuple(names) + (f"T{at + 1}",)))
        at += 1
    rules += [(f"T{at + step}", (f"T{at + step + 1}",)) for step in range(left - 1)] + [(f"T{at + left - 1}", ())]
    return (("a",), "T0", tuple(rules))


def deep_grammar(depth):
    """One tree for (): a whole tree of eights with so many levels."""
    rules = [(f"N{at}", (f"N{at + 1}",) * 8) for at in range(depth - 1)] + [(f"N{depth - 1}", ())]
    return (("a",), "N0", tuple(rules))


def power_grammar(more):
    """A grammar with 10 ** 60 trees for (), and with more many besides."""
    # T has 10 trees, H has 10 ** 8 of them by eight of T.
    rules = [("T", ("E",) * at) for at in range(8)] + [("T", ("E", "K")), ("T", ("K",)), ("E", ()), ("K", ("E", "E", "E"))]
    rules += [("H", ("T",) * 8), ("S", ("H",) * 7 + ("U",)), ("U", ("T",) * 4)]
    rules += [("S", ("E",))] * more
    return (("a",), "S", tuple(rules))


def flat_packings(more):
    """A grammar and a row with 20,000 packings, or some more."""
    # Each of the 392 tokens has 48 packings of X, each of the 393 places one of D, of E and of L; S has six or more.
    sides = [(), ("D",), ("E",), ("D", "D"), ("D", "E"), ("E", "D"), ("E", "E")]
    rights = [ahead + ("a",) + behind for ahead in sides for behind in sides]
    rules = [("L", ("L", "X")), ("L", ()), ("D", ()), ("E", ())] + [("X", right) for right in rights[1:]]
    tops = [("L",), ("E", "L"), ("D", "L"), ("D", "D", "L"), ("D", "E", "L"), ("E", "D", "L")][:5 + more]
    return (("a",), "S", tuple(rules) + tuple(("S", top) for top in tops)), ("a",) * 392


if __name__ == "__main__":
    unittest.main()
