import random
import unittest

from shiftroads.attributes import is_one_walk, is_scheme, worths_of
from shiftroads.errors import InvalidGrammar, InvalidScheme, InvalidSymbols, InvalidTree, InvalidWorths
from tests.makers import BARE, C, F, G, GG, HG, J, KG, KS, KW, LISTS, MIRROR, RINGS, TOP, WORDS, all_trees, bent, check_refusals
from tests.makers import check_steady, error_of, expression_reads, is_nonterminal_in, is_plain_name, junk, letters_of, nothing
from tests.makers import plain_reads, plain_sources, plain_targets, plain_worths, random_expression, random_grammars, random_scheme

KNOWN = [HG, G, F, C, GG, RINGS, J, MIRROR, LISTS, BARE]


def depth_of(expression):
    parts = [part for part in expression[1:] if type(part) is tuple]
    return 1 + max((depth_of(part) for part in parts), default=0)


def is_plain_expression(sources, value):
    if type(value) is not tuple or not value or type(value[0]) is not str:
        return False
    if value[0] == "num":
        return len(value) == 2 and type(value[1]) is int and 0 <= value[1] <= TOP
    if value[0] == "of":
        return len(value) == 3 and type(value[1]) is int and type(value[2]) is str and value[1:] in sources
    return len(value) - 1 == WORDS.get(value[0]) and all(is_plain_expression(sources, part) for part in value[1:])


def is_plain_scheme(grammar, value):
    """A second way to tell schemes."""
    if type(value) is not tuple or len(value) != 2 or not all(type(part) is tuple for part in value):
        return False
    if len(value[0]) != len(letters_of(grammar)) or len(value[1]) != len(grammar[2]):
        return False
    for pair in value[0]:
        if type(pair) is not tuple or len(pair) != 2 or not all(type(part) is tuple and len(part) <= 3 for part in pair):
            return False
        words = pair[0] + pair[1]
        if not all(is_plain_name(word, "small") and word != "worth" for word in words) or len(set(words)) < len(words):
            return False
    names = dict(zip(letters_of(grammar), value[0]))
    for rule, row in zip(grammar[2], value[1]):
        if type(row) is not tuple or not all(type(one) is tuple and len(one) == 2 and type(one[0]) is tuple for one in row):
            return False
        if [target for target, _ in row] != plain_targets(names, rule) or any(type(target[0]) is bool for target, _ in row):
            return False
        for _, expression in row:
            if not is_plain_expression(plain_sources(names, rule), expression) or depth_of(expression) > 4:
                return False
    return True


def is_plain_one_walk(scheme):
    return all(
        place < target[0] for row in scheme[1] for target, expression in row if target[0] for place, _ in expression_reads(expression)
    )


def cases(seed, count, most=2, size=8):
    """Grammars with schemes, and trees of them of some nonterminal."""
    rng = random.Random(seed)
    found = []
    for grammar in KNOWN + random_grammars(seed + 1, count):
        trees = all_trees(grammar, size)
        for _ in range(2):
            scheme = random_scheme(rng, grammar, rng.randint(1, most), rng.random() < 0.4)
            for name in letters_of(grammar):
                for tree in rng.sample(sorted(trees[name], key=repr), min(3, len(trees[name]))):
                    found.append((grammar, scheme, name, tree))
    return found


def some_worths(rng, count):
    return tuple(rng.choice((0, 1, 2, TOP, TOP - 1, rng.randint(0, TOP))) for _ in range(count))


class Schemes(unittest.TestCase):
    def test_random(self):
        rng = random.Random(421)
        seen = {True: 0, False: 0}
        for grammar in KNOWN + random_grammars(422, 150):
            for one_walk in (True, False):
                scheme = random_scheme(rng, grammar, rng.randint(1, 3), one_walk)
                self.assertTrue(is_plain_scheme(grammar, scheme))
                self.assertIs(is_scheme(grammar, scheme), True, (grammar, scheme))
                right = is_plain_one_walk(scheme)
                self.assertIs(is_one_walk(grammar, scheme), right)
                self.assertTrue(right or not one_walk)
                seen[right] += 1
        self.assertGreater(min(seen.values()), 50)

    def test_bent(self):
        rng = random.Random(423)
        seen = {True: 0, False: 0}
        pairs = [(KG, KS)] + [(grammar, random_scheme(rng, grammar, 2)) for grammar in [HG, LISTS] + random_grammars(424, 25)]
        for grammar, scheme in pairs:
            values = bent(scheme)
            rng.shuffle(values)
            for value in values[:700]:
                right = is_plain_scheme(grammar, value)
                seen[right] += 1
                self.assertIs(is_scheme(grammar, value), right, (grammar, value))
                if not right:
                    self.assertIs(type(error_of(is_one_walk, grammar, value)), InvalidScheme)
        self.assertGreater(min(seen.values()), 300)

    def check_names(self, ups, downs, right):
        grammar = (("a",), "S", (("S", ("a",)),))
        row = tuple(((0, name), ("num", 0)) for name in sorted(ups, key=str)) if type(ups) is tuple else ()
        self.assertIs(is_scheme(grammar, (((ups, downs),), (row,))), right, (ups, downs))

    def test_names(self):
        self.check_names(("a", "b", "c"), ("d", "e", "f"), True)
        self.check_names(("c", "a", "b"), (), True)
        self.check_names((), (), True)
        self.check_names(("z" * 20, "a1"), ("aA",), True)
        for ups, downs in (
            (("a", "b", "c", "d"), ()), ((), ("a", "b", "c", "d")), (("a", "a"), ()), (("a",), ("a",)), ((), ("a", "a")), (("A",), ()),
            (("worth",), ()), ((), ("worth",)), (("1a",), ()), (("",), ()), (("z" * 21,), ()), ((None,), ()), ((1,), ()), (["a"], ()),
            (("a_",), ()), ("a", ()), ((), None),
        ):
            self.check_names(ups, downs, False)

    def test_by_hand(self):
        self.assertIs(is_scheme(KG, KS), True)
        names, rows = KS
        first = rows[0]
        for row in (
            first[::-1], first[:1], first[1:], first + first[1:], (), list(first), first[:1] + (((1, "e"), ("num", 1)),),
            first[:1] + (((True, "d"), ("num", 1)),), first[:1] + (((2, "d"), ("num", 1)),), first[:1] + (((1, "d"),),),
            first[:1] + ([(1, "d"), ("num", 1)],), first[:1] + (([1, "d"], ("num", 1)),), (((0, "d"), ("num", 1)),) + first[1:],
            first[:1] + (((1, "d"), ("num", 1), 0),),
        ):
            self.assertIs(is_scheme(KG, (names, (row,) + rows[1:])), False, row)
        for expression in (
            ("num", -1), ("num", TOP + 1), ("num", True), ("num", "1"), ("num",), ("num", 1, 1), ("of", 0, "v"), ("of", 1, "d"),
            ("of", 2, "v"), ("of", 2, "d"), ("of", 1, "worth"), ("of", 0, "worth"), ("of", 4, "v"), ("of", -1, "v"), ("of", True, "v"),
            ("of", 1), ("of", 1, "v", 0), ("of", "1", "v"), ("of", 1, ["v"]), ("of", 1, None), ("add", ("num", 1)),
            ("add", ("num", 1), ("num", 1), ("num", 1)), ("if", ("num", 1), ("num", 1)), ("div", ("num", 1), ("num", 1)),
            ["num", 1], ("add", ["num", 1], ("num", 1)), ("Num", 1), (["num"], 1), ((), 1), (), None, 1, "num", ("less", ("num", 1), 1),
            ("neg", ("num", 1)), ("sub", ("num", 1), ()), ("mul",), (None, 1),
        ):
            self.assertIs(is_scheme(KG, (names, ((((0, "v"), expression),) + first[1:],) + rows[1:])), False, expression)
        for expression in (
            ("num", 0), ("num", TOP), ("of", 1, "v"), ("of", 2, "worth"), ("of", 3, "v"), ("of", 0, "d"),
            ("if", ("num", 1), ("of", 1, "v"), ("less", ("num", 1), ("num", 2))), ("mul", ("sub", ("num", 1), ("num", 2)), ("of", 2, "worth")),
        ):
            self.assertIs(is_scheme(KG, (names, ((((0, "v"), expression),) + first[1:],) + rows[1:])), True, expression)
        for value in ((names[::-1], rows), (names[:1], rows), (names, rows[:2]), (names, rows + ((),)), (names,), [names, rows], (names, rows, ())):
            self.assertIs(is_scheme(KG, value), False)
        for value in junk():
            self.assertIs(is_scheme(KG, value), False)

    def test_depth(self):
        expression = ("num", 1)
        for depth in range(1, 12):
            names, rows = KS
            for deep in (expression, ("add", ("num", 1), expression), ("if", ("num", 1), ("num", 2), expression)):
                scheme = (names, rows[:2] + ((((0, "v"), deep),),))
                self.assertIs(is_scheme(KG, scheme), depth_of(deep) <= 4)
            expression = ("less", expression, ("num", 2))

    def test_one_walk(self):
        grammar = (("a",), "S", (("S", ("S", "a", "S")), ("S", ())))
        for target, source, right in (
            ((1, "d"), (0, "d"), True), ((1, "d"), (1, "u"), False), ((1, "d"), (2, "worth"), False), ((1, "d"), (3, "u"), False),
            ((3, "d"), (0, "d"), True), ((3, "d"), (1, "u"), True), ((3, "d"), (2, "worth"), True), ((3, "d"), (3, "u"), False),
            ((0, "u"), (0, "d"), True), ((0, "u"), (1, "u"), True), ((0, "u"), (2, "worth"), True), ((0, "u"), (3, "u"), True),
        ):
            equations = {one: ("num", 0) for one in ((0, "u"), (1, "d"), (3, "d"))}
            equations[target] = ("add", ("num", 1), ("of",) + source)
            scheme = (((("u",), ("d",)),), (tuple(sorted(equations.items())), (((0, "u"), ("num", 1)),)))
            self.assertIs(is_one_walk(grammar, scheme), right, (target, source))


class Worths(unittest.TestCase):
    def test_plain(self):
        rng = random.Random(425)
        seen = {"worths": 0, "ring": 0}
        for grammar, scheme, name, tree in cases(426, 200):
            leaves = some_worths(rng, sum(type(item) is str for item in tree))
            downs = some_worths(rng, len(dict(zip(letters_of(grammar), scheme[0]))[name][1]))
            told = worths_of(grammar, scheme, name, tree, leaves, downs)
            plain = plain_worths(grammar, scheme, tree, leaves, downs)
            self.assertIs(type(told), tuple)
            if plain is None:
                self.check_ring(grammar, scheme, tree, told)
            else:
                self.assertEqual(told, ("worths", plain), (grammar, scheme, tree))
            if is_one_walk(grammar, scheme):
                self.assertEqual(told[0], "worths")
            seen[told[0]] += 1
        self.assertGreater(min(seen.values()), 100)

    def check_ring(self, grammar, scheme, tree, told):
        self.assertEqual((told[0], len(told)), ("ring", 2))
        ring = told[1]
        self.assertIs(type(ring), tuple)
        self.assertEqual(len(set(ring)), len(ring))
        reads = plain_reads(grammar, scheme, tree)
        for one, other in zip(ring, ring[1:] + ring[:1]):
            self.assertIn(other, reads[one])

    def test_deep(self):
        # A list of 4,000 items, counted from both ends.
        grammar = (("a",), "S", (("S", ("a", "S")), ("S", ())))
        add = lambda one: ("add", ("of",) + one, ("num", 1))
        first = (((0, "u"), add((2, "u"))), ((2, "d"), ("add", ("of", 0, "d"), ("of", 1, "worth"))))
        scheme = (((("u",), ("d",)),), (first, (((0, "u"), ("of", 0, "d")),)))
        for many in (0, 1, 9999):
            tree = (0, "a") * many + (1,)
            told = worths_of(grammar, scheme, "S", tree, (3,) * many, (TOP,))
            self.assertEqual(told[0], "worths")
            self.assertEqual(told[1][0], ((TOP,), ((TOP + 3 * many + many) % 2 ** 32,)))
            self.assertEqual(told[1][-1], (((TOP + 3 * many) % 2 ** 32,),) * 2)
        ring = (((("u",), ("d",)),), (first, (((0, "u"), ("num", 1)),)))
        self.assertEqual(worths_of(grammar, ring, "S", (0, "a") * 9999 + (1,), (0,) * 9999, (0,))[1][0], ((0,), (10000,)))
        # Each one reads the next one: a ring as long as the tree.
        up, down = ((0, "u"), ("of", 2, "u")), ((2, "d"), ("of", 0, "d"))
        grammar = (("a",), "T", (("T", ("a", "S")), ("S", ("a", "S")), ("S", ())))
        scheme = (
            ((("u",), ("d",)), ((), ())),
            ((((2, "d"), ("of", 2, "u")),), (up, down), (((0, "u"), ("of", 0, "d")),)),
        )
        for many in (0, 1, 5000):
            tree = (0, "a") + (1, "a") * many + (2,)
            told = worths_of(grammar, scheme, "T", tree, (0,) * (many + 1), ())
            self.check_ring(grammar, scheme, tree, told) if many < 100 else None
            self.assertEqual((told[0], len(told[1])), ("ring", 2 * (many + 1)))

    def test_all_instances_are_looked_at(self):
        # The ring is nothing that the first node reads.
        grammar = (("a",), "S", (("S", ("A",)), ("A", ("a",))))
        scheme = (((("v",), ("d",)), ((), ())), ((((1, "d"), ("of", 1, "v")),), (((0, "v"), ("of", 0, "d")),)))
        told = worths_of(grammar, scheme, "S", (0, 1, "a"), (5,), ())
        self.assertEqual(told[0], "ring")
        self.assertEqual(sorted(told[1]), [(1, "d"), (1, "v")])
        # In a tree of A itself, the down is given.
        self.assertEqual(worths_of(grammar, scheme, "A", (1, "a"), (5,), (7,)), ("worths", (((7,), (7,)), 5)))
        # What stands in a part of an if that is not taken is read, too.
        lazy = (((("v",), ("d",)), ((), ())), ((((1, "d"), ("if", ("num", 0), ("of", 1, "v"), ("num", 3))),), (((0, "v"), ("of", 0, "d")),)))
        self.assertEqual(worths_of(grammar, lazy, "S", (0, 1, "a"), (5,), ())[0], "ring")
        own = (((("v",), ()), ((), ())), ((), (((0, "v"), ("of", 1, "worth")),)))
        self.assertEqual(worths_of(grammar, own, "S", (0, 1, "a"), (5,), ()), ("worths", (((), ()), ((), (5,)), 5)))

    def worth_by(self, expression, leaf=0):
        grammar = (("a",), "S", (("S", ("a",)),))
        return worths_of(grammar, (((("v",), ("d",)),), ((((0, "v"), expression),),)), "S", (0, "a"), (leaf,), (TOP,))[1][0][1][0]

    def test_expressions(self):
        num = lambda number: ("num", number)
        for expression, worth in (
            (num(0), 0), (num(TOP), TOP), (("add", num(TOP), num(1)), 0), (("add", num(TOP), num(TOP)), TOP - 1), (("sub", num(0), num(1)), TOP),
            (("sub", num(5), num(3)), 2), (("sub", num(3), num(5)), TOP - 1), (("mul", num(TOP), num(TOP)), 1), (("mul", num(65536), num(65536)), 0),
            (("mul", num(6), num(7)), 42), (("less", num(1), num(2)), 1), (("less", num(2), num(2)), 0), (("less", num(3), num(2)), 0),
            (("less", num(0), num(TOP)), 1), (("if", num(0), num(1), num(2)), 2), (("if", num(1), num(1), num(2)), 1),
            (("if", num(TOP), num(1), num(2)), 1), (("of", 0, "d"), TOP), (("of", 1, "worth"), 9), (("sub", ("of", 1, "worth"), ("of", 0, "d")), 10),
        ):
            self.assertEqual(self.worth_by(expression, 9), worth, expression)

    def test_ends(self):
        for worth in (0, TOP):
            told = worths_of(KG, KS, "N", (2, "num"), (worth,), ())
            self.assertEqual(told, ("worths", (((), (worth,)), worth)))
        for bad in (-1, TOP + 1, True, None, "1", (1,)):
            self.assertIs(type(error_of(worths_of, KG, KS, "N", (2, "num"), (bad,), ())), InvalidWorths)
            self.assertIs(type(error_of(worths_of, KG, KS, "S", KW, (1, 2, 3), (bad,))), InvalidWorths)


class Refusals(unittest.TestCase):
    def test_kinds(self):
        check_refusals(self, is_scheme, (KG, KS), (InvalidGrammar, None), (nothing, nothing))
        check_refusals(self, is_one_walk, (KG, KS), (InvalidGrammar, InvalidScheme), (nothing, nothing))
        errors = (InvalidGrammar, InvalidScheme, InvalidSymbols, InvalidTree, InvalidWorths, InvalidWorths)
        names = is_nonterminal_in(KG)
        one = lambda value: value == (1,) and type(value[0]) is int
        check_refusals(self, worths_of, (KG, KS, "S", KW, (5, 0, 7), (10,)), errors, (nothing, nothing, names, nothing, nothing, one))
        good = [KG, KS, "S", KW, (5, 0, 7), (10,)]
        for at, bad in ((2, "num"), (3, KW[1:]), (3, ("S",)), (3, (0, "S", "plus", 2, "num")), (4, (5, 0)), (4, (5, 0, 7, 7)), (5, ()), (5, (1, 2))):
            for worse in range(at, 6):
                arguments = good[:at] + [bad] + good[at + 1:worse + 1] + [None] * (5 - max(worse, at))
                self.assertIs(type(error_of(worths_of, *arguments)), errors[at])
        self.assertIs(type(error_of(worths_of, KG, KS, "N", KW, (5, 0, 7), ())), InvalidTree)

    def test_steady(self):
        check_steady(self, is_scheme, [(KG, KS), (KG, KS[::-1])])
        check_steady(self, is_one_walk, [(KG, KS)])
        check_steady(self, worths_of, [(KG, KS, "S", KW, (5, 0, 7), (10,)), (KG, KS, "N", (2, "num"), (1,), ())])


if __name__ == "__main__":
    unittest.main()
