import itertools
import random
import unittest

from shiftroads.attributes import is_scheme, worths_of
from shiftroads.errors import InvalidGrammar, InvalidScheme, TooMany
from shiftroads.relations import relations, ring_tree
from shiftroads.trees import is_tree
from tests.makers import BARE, C, F, G, GG, HG, J, KG, KS, LISTS, MIRROR, RINGS, all_trees, check_refusals, check_steady
from tests.makers import check_too_many, closed_reads, error_of, expression_reads, letters_of, nothing, plain_reads
from tests.makers import plain_targets, random_grammars, random_scheme

KNOWN = [HG, G, F, C, GG, RINGS, J, MIRROR, LISTS, BARE]


def cases(seed, count, most=2):
    rng = random.Random(seed)
    found = []
    for grammar in KNOWN + random_grammars(seed + 1, count):
        for one_walk in (False, False, True):
            found.append((grammar, random_scheme(rng, grammar, rng.randint(1, most), one_walk)))
    return found


def relation_of(grammar, scheme, tree):
    """By the words of [63], from all instances of a tree: its relation, or None if it has a ring."""
    closed = closed_reads(plain_reads(grammar, scheme, tree))
    if any(one in closed[one] for one in closed):
        return None
    ups, downs = dict(zip(letters_of(grammar), scheme[0]))[grammar[2][tree[0]][0]]
    return tuple(sorted((down, up) for up in ups for down in downs if (0, down) in closed[0, up]))


def plain_relations(grammar, scheme, most=300):
    """By turns over all rules and all choices: the relations, and whether a ring was found; None if there are many choices."""
    names = dict(zip(letters_of(grammar), scheme[0]))
    found = {name: set() for name in names}
    ring = False
    before = None
    while before != found:
        before = {name: set(found[name]) for name in found}
        for (left, right), row in zip(grammar[2], scheme[1]):
            places = [place for place, symbol in enumerate(right, 1) if symbol in names]
            choices = [sorted(before[right[place - 1]]) for place in places]
            many = 1
            for one in choices:
                many *= len(one)
            if many > most:
                return None
            for choice in itertools.product(*choices):
                reads = {(place, name): set() for place, symbol in enumerate((left,) + right) for pair in [names.get(symbol, ((), ()))] for name in pair[0] + pair[1]}
                for target, expression in row:
                    reads[target] |= {source for source in expression_reads(expression) if source in reads}
                for place, relation in zip(places, choice):
                    for down, up in relation:
                        reads[place, up].add((place, down))
                closed = closed_reads(reads)
                if any(one in closed[one] for one in closed):
                    ring = True
                else:
                    found[left].add(tuple(sorted((down, up) for up in names[left][0] for down in names[left][1] if (0, down) in closed[0, up])))
    return tuple(tuple(sorted(found[name])) for name in letters_of(grammar)), ring


def choice_grammar(counts, ring=False, more=()):
    """A grammar and a scheme by which S has as many choices as the product of some counts, each the relations of a symbol."""
    names = ["A", "B", "D", "E"][:len(counts)]
    pairs = [(down, up) for down in ("d", "e", "f") for up in ("u", "v", "w")]
    rules, rows = [], []
    for name, count in zip(names, counts):
        for number in range(count):
            rules.append((name, tuple("ab"[number >> place & 1] for place in range(6))))
            relation = [pair for at, pair in enumerate(pairs) if number >> at & 1]
            row = []
            for up in ("u", "v", "w"):
                expression = ("num", 1)
                for down in [down for down, other in relation if other == up]:
                    expression = ("add", ("of", 0, down), expression) if expression != ("num", 1) else ("of", 0, down)
                row.append(((0, up), expression))
            rows.append(tuple(row))
    right = tuple(names)
    rules.append(("S", right))
    rows.append(tuple(((place, down), ("num", 1)) for place in range(1, len(names) + 1) for down in ("d", "e", "f")))
    if ring:
        # What stands below reads its own up, which reads the down.
        rules.insert(0, ("R", ("A",)))
        rows.insert(0, tuple(((1, down), ("of", 1, "u")) for down in ("d", "e", "f")))
    grammar = (("a", "b"), "S", tuple(rules))
    told = {name: (("u", "v", "w"), ("d", "e", "f")) for name in names}
    return grammar, (tuple(told.get(name, ((), ())) for name in letters_of(grammar)), tuple(rows))


class Relations(unittest.TestCase):
    def test_plain(self):
        seen = {"ring": 0, "none": 0, "empty": 0, "many": 0}
        for grammar, scheme in cases(431, 250) + cases(433, 40, 3):
            plain = plain_relations(grammar, scheme)
            if plain is None:
                continue
            told = relations(grammar, scheme)
            self.assertEqual(told, plain[0], (grammar, scheme))
            self.assertIs(type(told), tuple)
            self.assertEqual(ring_tree(grammar, scheme) is not None, plain[1])
            seen["ring" if plain[1] else "none"] += 1
            seen["empty"] += () in told
            seen["many"] += any(len(row) > 2 for row in told)
        self.assertGreater(min(seen.values()), 20)

    def test_against_trees(self):
        found = rings = 0
        for grammar, scheme in cases(435, 100):
            if plain_relations(grammar, scheme) is None:
                continue
            told = dict(zip(letters_of(grammar), relations(grammar, scheme)))
            ring = ring_tree(grammar, scheme)
            trees = all_trees(grammar, 6)
            for name in told:
                shown = set()
                for tree in sorted(trees[name], key=repr)[:40]:
                    relation = relation_of(grammar, scheme, tree)
                    if relation is None:
                        self.assertIsNotNone(ring)
                        rings += 1
                    else:
                        self.assertIn(relation, told[name])
                        shown.add(relation)
                found += shown == set(told[name])
        self.assertGreater(found, 300)
        self.assertGreater(rings, 100)

    def test_ring_trees(self):
        found = 0
        for grammar, scheme in cases(437, 250):
            told = error_of(ring_tree, grammar, scheme)
            self.assertIsNone(told)
            told = ring_tree(grammar, scheme)
            if told is None:
                continue
            name, tree = told
            self.assertTrue(is_tree(grammar, name, tree))
            leaves = tuple(0 for item in tree if type(item) is str)
            downs = tuple(0 for _ in dict(zip(letters_of(grammar), scheme[0]))[name][1])
            self.assertEqual(worths_of(grammar, scheme, name, tree, leaves, downs)[0], "ring")
            self.assertIsNone(relation_of(grammar, scheme, tree))
            found += 1
        self.assertGreater(found, 60)

    def test_one_walk_has_no_ring(self):
        rng = random.Random(439)
        for grammar in KNOWN + random_grammars(440, 60):
            scheme = random_scheme(rng, grammar, 2, True)
            if plain_relations(grammar, scheme) is not None:
                self.assertIsNone(ring_tree(grammar, scheme))

    def test_by_hand(self):
        ring = (KS[0], (KS[1][0][:1] + (((1, "d"), ("of", 1, "v")),), KS[1][1], KS[1][2]))
        self.assertEqual(relations(KG, ring), ((((),)), ((("d", "v"),),)))
        name, tree = ring_tree(KG, ring)
        self.assertEqual(name, "S")
        self.assertEqual(worths_of(KG, ring, "S", tree, (0,) * tree.count("num") + (0,) * tree.count("plus"), (0,))[0], "ring")
        # A has no tree without a ring, so what it stands in has none either; B has no tree.
        grammar = (("a",), "S", (("S", ("A",)), ("A", ("E",)), ("E", ("a",)), ("B", ("B",))))
        scheme = (
            (((), ()), ((), ()), (("v",), ("d",)), ((), ())),
            ((), (((1, "d"), ("of", 1, "v")),), (((0, "v"), ("of", 0, "d")),), ()),
        )
        self.assertTrue(is_scheme(grammar, scheme))
        self.assertEqual(relations(grammar, scheme), ((), (), ((("d", "v"),),), ()))
        self.assertEqual(ring_tree(grammar, scheme), ("A", (1, 2, "a")))


class Limits(unittest.TestCase):
    def test_two_thousand(self):
        for counts, right in (((10, 10, 20), True), ((3, 23, 29), False), ((44, 35), True), ((40, 39), True), ((7, 8, 36), False)):
            product = 1
            for count in counts:
                product *= count
            self.assertEqual(product <= 2000, right)
            grammar, scheme = choice_grammar(counts)
            self.assertTrue(is_scheme(grammar, scheme))
            if right:
                told = relations(grammar, scheme)
                self.assertEqual([len(row) for row in told], list(counts) + [1])
                self.assertIsNone(ring_tree(grammar, scheme))
            else:
                check_too_many(self, 2000, relations, grammar, scheme)
                check_too_many(self, 2000, ring_tree, grammar, scheme)

    def test_behind_a_ring(self):
        grammar, scheme = choice_grammar((10, 10, 20), True)
        self.assertEqual(ring_tree(grammar, scheme)[0], "R")
        grammar, scheme = choice_grammar((3, 23, 29), True)
        self.assertTrue(is_scheme(grammar, scheme))
        check_too_many(self, 2000, ring_tree, grammar, scheme)
        check_too_many(self, 2000, relations, grammar, scheme)
        # A symbol without trees leaves no choices.
        barren = (grammar[0], "S", grammar[2][:-1] + (("S", ("A", "B", "D", "S")),))
        row = scheme[1][-1]
        told = relations(barren, (scheme[0], scheme[1][:-1] + (row,)))
        self.assertEqual([len(one) for one in told], [3, 23, 29, 1, 0])

    def test_long_ring_trees(self):
        # All trees of S have at least 1 + 8 + 64 + 512 + .. items.
        for depth, fine in ((4, True), (5, None)):
            rules = [(f"N{at}", (f"N{at + 1}",) * 8) for at in range(depth - 1)] + [(f"N{depth - 1}", ())]
            grammar = (("a",), "S", (("S", ("A", "N0")), ("A", ())) + tuple(rules))
            names = {"A": (("v",), ("d",))}
            pairs = tuple(names.get(name, ((), ())) for name in letters_of(grammar))
            scheme = (pairs, ((((1, "d"), ("of", 1, "v")),), (((0, "v"), ("of", 0, "d")),)) + ((),) * len(rules))
            self.assertTrue(is_scheme(grammar, scheme))
            told = error_of(ring_tree, grammar, scheme)
            if fine:
                self.assertEqual(len(ring_tree(grammar, scheme)[1]), 2 + sum(8 ** at for at in range(depth)))
            else:
                self.assertIs(type(told), TooMany)
                self.assertEqual(told.limit, 2000)
            self.assertEqual(relations(grammar, scheme)[-1], ())


    def test_ring_trees_of_two_thousand(self):
        for size in (1998, 1999, 2000):
            # A list of tokens of one length, behind which the ring comes.
            chain = [("N0", ("a",) * 8)]
            sizes = [9]
            while sizes[-1] * 6 + 20 < size - 3:
                chain.append((f"N{len(chain)}", (f"N{len(chain) - 1}",) * 6))
                sizes.append(sizes[-1] * 6 + 1)
            left = size - 3
            rules = []
            while left > 7:
                at = max(at for at in range(len(sizes)) if sizes[at] < left - 1) if left > 11 else None
                row = (f"N{at}",) if at is not None else ("a",) * (left - 3)
                rules.append((f"T{len(rules)}", row + (f"T{len(rules) + 1}",)))
                left -= 1 + (sizes[at] if at is not None else left - 3)
            rules.append((f"T{len(rules)}", ("a",) * (left - 1)))
            grammar = (("a",), "S", (("S", ("A", "T0")), ("A", ("a",))) + tuple(chain + rules))
            names = {"A": (("v",), ("d",))}
            pairs = tuple(names.get(name, ((), ())) for name in letters_of(grammar))
            scheme = (pairs, ((((1, "d"), ("of", 1, "v")),), (((0, "v"), ("of", 0, "d")),)) + ((),) * len(chain + rules))
            self.assertTrue(is_scheme(grammar, scheme))
            name, tree = ring_tree(grammar, scheme)
            self.assertEqual((name, len(tree)), ("S", size))


class Refusals(unittest.TestCase):
    def test_kinds(self):
        for function in (relations, ring_tree):
            check_refusals(self, function, (KG, KS), (InvalidGrammar, InvalidScheme), (nothing, nothing))
            check_steady(self, function, [(KG, KS), choice_grammar((3, 4), True), (HG, random_scheme(random.Random(1), HG))])


if __name__ == "__main__":
    unittest.main()
