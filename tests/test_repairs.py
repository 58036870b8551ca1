import itertools
import random
import unittest

from shiftroads.errors import InvalidCosts, InvalidGrammar, InvalidRow, NoSentence
from shiftroads.repairs import complete, is_bound, least_costs, panic, repair
from shiftroads.steps import steps_cost, steps_rows
from shiftroads.trees import is_tree, leaves_of
from tests.makers import BARE, C, F, G, HG, LISTS, LOST, MIRROR, RINGS, all_trees, check_refusals, check_steady, check_too_many
from tests.makers import error_of, frozen, junk, letters_of, nothing, random_grammars, rows_for, trees_by_height, words_up_to

IG = (
    ("box", "close", "gap", "item"), "Box",
    (("Box", ("box", "Row", "close")), ("Row", ("Thing",)), ("Row", ("Row", "gap", "Thing")), ("Thing", ("item",)), ("Thing", ("Box",))),
)
IC = ((5, 1, 5, 5), (2, 2, 2, 2), 4)
BARREN = (("a", "b"), "S", (("S", ("a", "S")), ("S", ("S",)), ("A", ("b",))))


def random_costs(rng, grammar, most=6):
    count = len(grammar[0])
    return tuple(tuple(rng.randint(1, most) for _ in range(count)) for _ in range(2)) + (rng.randint(1, most),)


def plain_distance(grammar, costs, row, other):
    """The least cost of steps from a row to another one: all ways, by the rests of both."""
    known = {}

    def least(i, j):
        if (i, j) not in known:
            found = [0] if i == len(row) and j == len(other) else []
            if i < len(row):
                found.append(costs[1][grammar[0].index(row[i])] + least(i + 1, j))
            if j < len(other):
                found.append(costs[0][grammar[0].index(other[j])] + least(i, j + 1))
            if i < len(row) and j < len(other):
                found.append(least(i + 1, j + 1) + (0 if row[i] == other[j] else costs[2]))
            known[i, j] = min(found)
        return known[i, j]

    return least(0, 0)


def parts_up_to(count):
    return [(begin, end) for begin in range(count + 1) for end in range(begin, count + 1)]


def plain_rule_price(grammar, costs, row, value, right, begin, end):
    """By the words of [49]: the price of a rule for a part, over all cuts, or None."""
    if not right:
        return (plain_distance(grammar, costs, row[begin:end], ()), 1)
    found = []
    for cuts in itertools.combinations_with_replacement(range(begin, end + 1), len(right) - 1):
        places = (begin,) + cuts + (end,)
        prices = []
        for symbol, one, other in zip(right, places, places[1:]):
            if symbol in grammar[0]:
                prices.append((plain_distance(grammar, costs, row[one:other], (symbol,)), 1))
            else:
                prices.append(value.get((symbol, one, other)))
        if None not in prices:
            found.append((sum(price[0] for price in prices), sum(price[1] for price in prices) + 1))
    return min(found) if found else None


def plain_least(grammar, costs, row):
    """The table of least costs, found by turns over all rules and parts until nothing changes."""
    value = {}
    before = None
    while before != value:
        before = dict(value)
        for left, right in grammar[2]:
            for begin, end in parts_up_to(len(row)):
                price = plain_rule_price(grammar, costs, row, before, right, begin, end)
                if price and (left, begin, end) not in value or price and price < value[left, begin, end]:
                    value[left, begin, end] = price
    return value


def is_plain_bound(grammar, costs, row, value):
    """By the words of [48] and [50]."""
    if type(value) is not dict:
        return False
    for key, pair in value.items():
        if type(key) is not tuple or len(key) != 3 or type(key[0]) is not str or key[0] not in letters_of(grammar):
            return False
        if any(type(at) is not int for at in key[1:]) or not 0 <= key[1] <= key[2] <= len(row):
            return False
        if type(pair) is not tuple or len(pair) != 2 or any(type(one) is not int or one < 0 for one in pair):
            return False
    for left, right in grammar[2]:
        for begin, end in parts_up_to(len(row)):
            price = plain_rule_price(grammar, costs, row, value, right, begin, end)
            if price is not None and ((left, begin, end) not in value or value[left, begin, end] > price):
                return False
    return True


def turned_bounds(rng, value, row, grammar):
    """Tables that come from one by turning one value or key."""
    found = [{}]
    keys = list(value)
    for key in rng.sample(keys, min(4, len(keys))):
        cost, size = value[key]
        for pair in (
            (cost, size - 1), (cost, size + 1), (cost + 1, 0), (max(cost - 1, 0), size + 9), (0, 0), (cost, -1), (-1, size), [cost, size],
            (cost, True), (cost, size, 0), (cost,), (), None, (str(cost), size), (cost + 10 ** 119, size), (cost, size + 10 ** 119),
        ):
            found.append({**value, key: pair})
        found.append({one: value[one] for one in value if one != key})
        for other in (
            (key[0], key[1], len(row) + 1), (key[0], -1, key[2]), (key[0], len(row) + 1, len(row) + 1), ("Zz", key[1], key[2]), key[:2],
            key + (0,), (key[0], True, 1), None, 5, "S", (grammar[0][0], 0, 0), (None, 0, 0), (key[0], str(key[1]), key[2]),
        ):
            found.append({**value, other: value[key]})
        if key[1] < key[2]:
            found.append({**value, (key[0], key[2], key[1]): value[key]})
    found.append({key: (0, 0) for key in value})
    found.append({(name, begin, end): (0, 0) for name in letters_of(grammar) for begin, end in parts_up_to(len(row))})
    found.append({(name, begin, end): (10 ** 119, 10 ** 119) for name in letters_of(grammar) for begin, end in parts_up_to(len(row))})
    return found


def small_cases(seed, count, length=3):
    rng = random.Random(seed)
    found = []
    for grammar in [HG, G, F, C, MIRROR, RINGS, LOST, BARE, BARREN] + random_grammars(seed + 1, count):
        row = tuple(rng.choice(grammar[0]) for _ in range(rng.randint(0, length)))
        found.append((grammar, random_costs(rng, grammar, rng.choice((1, 3, 9))), row))
    return found


class Bounds(unittest.TestCase):
    def test_least_costs(self):
        for grammar, costs, row in small_cases(361, 100):
            told = least_costs(grammar, costs, row)
            self.assertIs(type(told), dict)
            self.assertEqual(told, plain_least(grammar, costs, row), (grammar, costs, row))
            names = trees_by_height(grammar, grammar[0])
            self.assertEqual(set(told), {(name, begin, end) for name in names for begin, end in parts_up_to(len(row))})
            self.assertIs(is_bound(grammar, costs, row, told), True)

    def test_least_of_all_trees(self):
        found = 0
        for grammar, costs, row in small_cases(362, 60):
            told = least_costs(grammar, costs, row)
            trees = all_trees(grammar, 7)
            for name in letters_of(grammar):
                for begin, end in parts_up_to(len(row)):
                    pairs = []
                    for tree in trees[name]:
                        leaves = tuple(item for item in tree if type(item) is str)
                        pairs.append((plain_distance(grammar, costs, row[begin:end], leaves), len(tree)))
                    if pairs:
                        least = min(pairs)
                        value = told[name, begin, end]
                        self.assertLessEqual(value, least)
                        if value[1] <= 7:
                            self.assertEqual(value, least)
                            found += 1
        self.assertGreater(found, 500)

    def test_turned(self):
        rng = random.Random(363)
        seen = {True: 0, False: 0}
        for grammar, costs, row in small_cases(364, 25, 2):
            least = least_costs(grammar, costs, row)
            for value in turned_bounds(rng, least, row, grammar):
                right = is_plain_bound(grammar, costs, row, value)
                self.assertIs(is_bound(grammar, costs, row, value), right, (grammar, costs, row, value))
                seen[right] += 1
        self.assertGreater(min(seen.values()), 100)

    def test_great_numbers(self):
        # Great numbers of items do not make up for costs.
        grammar = (("a",), "S", (("S", ("A",)), ("A", ("a",))))
        costs = ((1,), (1,), 1)
        for great in (10 ** 119, 2 ** 200, 2 ** 199, 2 ** 201):
            for one, right in (
                ((1, 0), False), ((0, great), True), ((0, great + 1), True), ((0, great + 2), False), ((1, great), False), ((0, 0), True),
            ):
                self.assertIs(is_bound(grammar, costs, (), {("A", 0, 0): (0, great), ("S", 0, 0): one}), right)
                self.assertIs(is_bound(grammar, costs, (), {("A", 0, 0): (0, great), ("S", 0, 0): one, ("Zz", 0, 0): one}), False)
            self.assertIs(is_bound(grammar, costs, (), {("A", 0, 0): (1, 2), ("S", 0, 0): (great, 0)}), False)

    def test_any_values(self):
        for value in junk() + [{}, {1: 2}, {(): ()}, {"S": None}, [("S", 0, 0)]]:
            self.assertIs(is_bound(HG, ((1, 1), (1, 1), 1), (), value), False)
        # Without trees there is nothing to bound.
        self.assertIs(is_bound(BARREN, ((1, 1), (1, 1), 1), (), {("A", 0, 0): (1, 2)}), True)
        self.assertIs(is_bound(BARREN, ((1, 1), (1, 1), 1), (), {("A", 0, 0): (1, 2), ("S", 0, 0): (5, 5)}), True)
        self.assertIs(is_bound(BARREN, ((1, 1), (1, 1), 1), (), {("A", 0, 0): (1, 3)}), False)
        self.assertIs(is_bound(BARREN, ((1, 1), (1, 1), 1), (), {("A", False, 0): (1, 2)}), False)

    def test_long_rows(self):
        for count in (29, 30):
            row = (("box", "item", "gap") * 10)[:count]
            told = least_costs(IG, IC, row)
            self.assertEqual(len(told), 3 * (count + 1) * (count + 2) // 2)
            self.assertIs(is_bound(IG, IC, row, told), True)
            key = ("Row", 3, 17)
            self.assertIs(is_bound(IG, IC, row, {**told, key: (told[key][0], told[key][1] + 1)}), False)
            # The least tree of nothing but what is put in bounds each part from above.
            for begin in (0, 7, count):
                self.assertLessEqual(told["Box", begin, count][0], told["Box", begin, begin][0] + 2 * (count - begin))


def check_repair(case, grammar, costs, row, told):
    cost, steps, tree = told
    case.assertTrue(is_tree(grammar, grammar[1], tree))
    before, behind = steps_rows(steps)
    case.assertEqual((before, behind), (row, leaves_of(grammar, grammar[1], tree)))
    case.assertEqual(steps_cost(grammar, costs, steps), cost)
    return (cost, len(tree))


class Repairs(unittest.TestCase):
    def test_least(self):
        seen = 0
        for grammar, costs, row in small_cases(365, 150, 4):
            value = plain_least(grammar, costs, row).get((grammar[1], 0, len(row)))
            if value is None:
                self.assertIs(type(error_of(repair, grammar, costs, row)), NoSentence)
                continue
            self.assertEqual(check_repair(self, grammar, costs, row, repair(grammar, costs, row)), value)
            if len(row) <= 4 and row in words_up_to(grammar, 4)[grammar[1]]:
                self.assertEqual(value[0], 0)
                seen += 1
        self.assertGreater(seen, 15)

    def test_least_of_all_sentences(self):
        rng = random.Random(366)
        for grammar in (HG, G, F, MIRROR, LISTS, BARE):
            words = sorted(words_up_to(grammar, 9)[grammar[1]])
            for row in rows_for(rng, grammar, 12, 5):
                costs = random_costs(rng, grammar)
                told = repair(grammar, costs, row)
                check_repair(self, grammar, costs, row, told)
                least = min(plain_distance(grammar, costs, row, word) for word in words)
                leaves = leaves_of(grammar, grammar[1], told[2])
                self.assertLessEqual(told[0], least)
                if len(leaves) <= 9:
                    self.assertEqual(told[0], least)

    def test_thirty(self):
        rng = random.Random(367)
        for _ in range(4):
            row = tuple(rng.choice(IG[0]) for _ in range(30))
            told = repair(IG, IC, row)
            pair = check_repair(self, IG, IC, row, told)
            self.assertEqual(pair, least_costs(IG, IC, row)["Box", 0, 30])
        deep = ("box",) * 15 + ("item",) + ("close",) * 14
        told = repair(IG, IC, deep)
        self.assertEqual(told[0], 1)
        self.assertEqual([step for step in told[1] if step[0] != "keep"], [("put", "close")])

    def test_by_hand(self):
        costs = ((9, 9), (1, 9), 3)
        self.assertEqual(repair(HG, costs, ("b", "b")), (3, (("change", "b", "a"), ("keep", "b")), (0, "a", 1, "b")))
        self.assertEqual(repair(HG, costs, ("a", "b", "a")), (1, (("keep", "a"), ("keep", "b"), ("leave", "a")), (0, "a", 1, "b")))
        self.assertEqual(repair(HG, costs, ()), (9, (("put", "b"),), (1, "b")))
        self.assertEqual(repair(HG, costs, ("a", "b")), (0, (("keep", "a"), ("keep", "b")), (0, "a", 1, "b")))
        # Leaving out within an empty rule.
        empty = (("a",), "S", (("S", ()),))
        self.assertEqual(repair(empty, ((1,), (2,), 3), ("a", "a")), (4, (("leave", "a"), ("leave", "a")), (0,)))


def plain_completion(grammar, put, row, trees):
    """The least pair of a cost and a size, by some trees of the start, or None."""
    found = []
    for tree in trees:
        leaves = tuple(item for item in tree if type(item) is str)
        if leaves[:len(row)] == row:
            found.append((sum(put[grammar[0].index(token)] for token in leaves[len(row):]), len(tree)))
    return min(found) if found else None


def is_plain_beginning(grammar, row, more=5):
    return any(word[:len(row)] == row for word in words_up_to(grammar, len(row) + more)[grammar[1]])


class Completions(unittest.TestCase):
    def test_least(self):
        rng = random.Random(368)
        seen = {True: 0, False: 0}
        for grammar in [HG, G, F, C, MIRROR, RINGS, LOST, BARE, BARREN, LISTS] + random_grammars(369, 90):
            trees = all_trees(grammar, 7)[grammar[1]]
            for row in rows_for(rng, grammar, 4, 4):
                put = random_costs(rng, grammar)[0]
                if len(row) > 4:
                    continue
                told = complete(grammar, put, row)
                self.assertEqual(told is not None, is_plain_beginning(grammar, row), (grammar, row))
                seen[told is not None] += 1
                least = plain_completion(grammar, put, row, trees)
                if told is None:
                    self.assertIsNone(least)
                    continue
                cost, tokens, tree = told
                self.assertTrue(is_tree(grammar, grammar[1], tree))
                self.assertEqual(leaves_of(grammar, grammar[1], tree), row + tokens)
                self.assertEqual(cost, sum(put[grammar[0].index(token)] for token in tokens))
                if least is not None:
                    self.assertLessEqual((cost, len(tree)), least)
                if len(tree) <= 7:
                    self.assertEqual((cost, len(tree)), least)
        self.assertGreater(min(seen.values()), 100)

    def test_by_hand(self):
        self.assertEqual(complete(HG, (1, 5), ()), (5, ("b",), (1, "b")))
        self.assertEqual(complete(HG, (1, 5), ("a",)), (5, ("b",), (0, "a", 1, "b")))
        self.assertEqual(complete(HG, (1, 5), ("b",)), (0, (), (1, "b")))
        self.assertIsNone(complete(HG, (1, 5), ("b", "a")))
        self.assertIsNone(complete(BARREN, (1, 5), ()))
        self.assertIsNone(complete(BARREN, (1, 5), ("a",)))
        self.assertEqual(complete(HG, (1, 5), ("a",) * 30)[:2], (5, ("b",)))

    def test_like_costs(self):
        # Three tokens a cost as much as one b; the lesser tree is told.
        for bare in range(1, 8):
            chain = [("A", ("b",))] if bare == 1 else [("A", ("N2",))]
            chain += [(f"N{at}", (f"N{at + 1}",)) for at in range(2, bare)] + ([(f"N{bare}", ("b",))] if bare > 1 else [])
            grammar = (("a", "b"), "S", (("S", ("a", "a", "a")), ("S", ("A",))) + tuple(chain))
            told = complete(grammar, (1, 3), ())
            self.assertEqual((told[0], len(told[2])), (3, min(4, bare + 2)))
            costs = ((1, 3), (1, 1), 1)
            self.assertEqual(len(repair(grammar, costs, ())[2]), min(4, bare + 2))


def plain_panic(grammar, stops, row):
    """By the words of [52]: the steps up to the end of the row, and the kept row."""
    kept, steps, skips = (), [], 0
    for token in row:
        if is_plain_beginning(grammar, kept + (token,)) and (skips == 0 or token in stops):
            kept += (token,)
            steps.append(("keep", token))
            skips = 0
        else:
            steps.append(("leave", token))
            skips += 1
    return tuple(steps), kept


class Panics(unittest.TestCase):
    def test_plain(self):
        rng = random.Random(370)
        seen = {"keep": 0, "leave": 0, "put": 0}
        for grammar in [HG, G, F, C, MIRROR, RINGS, LOST, BARE, BARREN, LISTS] + random_grammars(371, 60):
            for row in rows_for(rng, grammar, 4, 4):
                row = row[:5]
                put = random_costs(rng, grammar)[0]
                stops = tuple(rng.choice(grammar[0]) for _ in range(rng.randint(0, 2)))
                if grammar[1] not in trees_by_height(grammar, grammar[0]):
                    self.assertIs(type(error_of(panic, grammar, put, stops, row)), NoSentence)
                    continue
                steps, tree = panic(grammar, put, stops, row)
                told, kept = plain_panic(grammar, stops, row)
                self.assertEqual(steps[:len(row)], told)
                self.assertTrue(is_tree(grammar, grammar[1], tree))
                self.assertEqual(steps_rows(steps), (row, leaves_of(grammar, grammar[1], tree)))
                least = complete(grammar, put, kept)
                rest = steps[len(row):]
                self.assertEqual({step[0] for step in rest} - {"put"}, set())
                self.assertEqual(sum(put[grammar[0].index(step[1])] for step in rest), least[0])
                self.assertEqual(len(tree), len(least[2]))
                for step in steps:
                    seen[step[0]] += 1
        self.assertGreater(min(seen.values()), 80)

    def test_by_hand(self):
        self.assertEqual(panic(HG, (1, 1), (), ("b", "a", "b")), ((("keep", "b"), ("leave", "a"), ("leave", "b")), (1, "b")))
        row = ("num", "num", "plus", "num", "num", "plus")
        told = panic(G, (1, 1), ("plus",), row)[0]
        words = [step[0] for step in told]
        self.assertEqual(words, ["keep", "leave", "keep", "keep", "leave", "keep", "put"])
        self.assertEqual([step[0] for step in panic(G, (1, 1), (), row)[0]], ["keep"] + ["leave"] * 5)
        # Stops that are no use, and more than 30 of them.
        self.assertEqual(panic(G, (1, 1), ("plus",) * 400, row)[0], told)
        self.assertEqual(panic(G, (1, 1), (), ())[0], (("put", "num"),))


def long_grammar(count):
    """A grammar whose only sentence is (), with one tree of 1 + 8 * (1 + count + .. + count ** 5) items."""
    rules = [("S", ("A",) * 8)]
    for one, other in zip("ABDEF", "BDEFH"):
        rules.append((one, (other,) * count))
    rules.append(("H", ()))
    return (("a", "b"), "S", tuple(rules))


def sized_grammar(size):
    """A grammar whose only sentence is (), with one tree of so many items, some thousands."""
    sizes = {"H": 1, "E": 9, "B": 73, "A": 585, "K": 4681}
    rules = [("H", ())] + [(one, (other,) * 8) for one, other in zip("EBAK", "HEBA")]
    left = size - 1
    names = []
    while left > 30 or len(names) < 3:
        name = max((name for name in sizes if sizes[name] < left), key=lambda name: sizes[name])
        names.append(name)
        left -= sizes[name]
        if len(names) == 7:
            # What goes on is a part of its own.
            rules.append((f"T{len(rules)}", tuple(names) + (f"T{len(rules) + 1}",)))
            names = []
            left -= 1
    # What is left is a chain of bare rules.
    rules.append((f"T{len(rules)}", tuple(names) + ("N0",)))
    chain = [f"N{at}" for at in range(left)]
    rules += [(one, (other,)) for one, other in zip(chain, chain[1:])] + [(chain[-1], ())]
    first = [left for left, _ in rules if left[0] == "T"][0]
    return (("a", "b"), "S", tuple([(("S",) + rule[1:]) if rule[0] == first else rule for rule in rules]))


class Limits(unittest.TestCase):
    def test_thirty_one(self):
        row = ("a",) * 29 + ("b",)
        costs = ((1, 1), (1, 1), 1)
        self.assertEqual(repair(HG, costs, row)[0], 0)
        self.assertEqual(complete(HG, costs[0], row)[0], 0)
        self.assertEqual(len(panic(HG, costs[0], (), row)[0]), 30)
        row = ("a",) + row
        for function, arguments in (
            (least_costs, (HG, costs, row)), (is_bound, (HG, costs, row, {})), (repair, (HG, costs, row)), (complete, (HG, costs[0], row)),
            (panic, (HG, costs[0], (), row)), (repair, (BARREN, costs, row)), (panic, (BARREN, costs[0], (), row)),
        ):
            check_too_many(self, 30, function, *arguments)
        for value in junk():
            check_too_many(self, 30, is_bound, HG, costs, row, value)
        self.assertIs(type(error_of(panic, HG, costs[0], None, row)), InvalidRow)
        self.assertIs(type(error_of(repair, HG, (), row)), InvalidCosts)
        self.assertIs(type(error_of(repair, HG, costs, row + ("c",))), InvalidRow)

    def test_ten_thousand(self):
        costs = ((1, 1), (1, 1), 1)
        for count in (4, 5):
            grammar = long_grammar(count)
            size = 1 + 8 * sum(count ** at for at in range(6))
            self.assertGreater(size, 10000)
            for row in ((), ("a",)):
                check_too_many(self, 10000, repair, grammar, costs, row)
                self.assertEqual(least_costs(grammar, costs, row)["S", 0, len(row)], (len(row), size))
            check_too_many(self, 10000, complete, grammar, costs[0], ())
            check_too_many(self, 10000, panic, grammar, costs[0], (), ("b",))
            # What is no beginning has no tree.
            self.assertIsNone(complete(grammar, costs[0], ("b",)))
            check_too_many(self, 30, repair, grammar, costs, ("a",) * 31)
            check_too_many(self, 30, complete, grammar, costs[0], ("a",) * 31)
        grammar = long_grammar(3)
        size = 1 + 8 * sum(3 ** at for at in range(6))
        self.assertEqual(len(repair(grammar, costs, ("a",))[2]), size)
        self.assertEqual(len(complete(grammar, costs[0], ())[2]), size)

    def test_just_ten_thousand(self):
        costs = ((1, 1), (1, 1), 1)
        for size in (9999, 10000, 10001):
            grammar = sized_grammar(size)
            self.assertEqual(least_costs(grammar, costs, ())["S", 0, 0], (0, size))
            calls = ((repair, grammar, costs, ()), (complete, grammar, costs[0], ()), (panic, grammar, costs[0], (), ("a",)))
            for at, call in enumerate(calls):
                if size <= 10000:
                    self.assertEqual(len(call[0](*call[1:])[(2, 2, 1)[at]]), size)
                else:
                    check_too_many(self, 10000, *call)
            # The tokens that are kept count, too.
            rules = tuple(rule if rule[0] != "S" else ("First",) + rule[1:] for rule in sized_grammar(size - 6)[2])
            grammar = (("a", "b"), "S", (("S", ("a", "b", "a", "a", "b", "First")),) + rules)
            row = ("a", "b", "a", "a", "b")
            for at, call in enumerate(((repair, grammar, costs, row), (complete, grammar, costs[0], row), (panic, grammar, costs[0], (), row))):
                if size <= 10000:
                    self.assertEqual(len(call[0](*call[1:])[(2, 2, 1)[at]]), size)
                else:
                    check_too_many(self, 10000, *call)


class Refusals(unittest.TestCase):
    def test_kinds(self):
        row = lambda value: type(value) is tuple and len(value) <= 400 and all(type(one) is str and one in HG[0] for one in value)
        costs = ((1, 2), (3, 4), 5)
        errors = (InvalidGrammar, InvalidCosts, InvalidRow)
        check_refusals(self, least_costs, (HG, costs, ("a",)), errors, (nothing, nothing, row))
        check_refusals(self, repair, (HG, costs, ("a",)), errors, (nothing, nothing, row))
        check_refusals(self, complete, (HG, costs[0], ("a",)), errors, (nothing, nothing, row))
        check_refusals(self, is_bound, (HG, costs, ("a",), {}), errors + (None,), (nothing, nothing, row, nothing))
        errors = (InvalidGrammar, InvalidCosts, InvalidRow, InvalidRow)
        check_refusals(self, panic, (HG, costs[0], ("a",), ("a",)), errors, (nothing, nothing, row, row))
        for bad in ((1,), (1, 2, 3), (0, 1), (1, 1001), (True, 1), [1, 1], costs, (1, "1")):
            self.assertIs(type(error_of(complete, HG, bad, None)), InvalidCosts)
            self.assertIs(type(error_of(panic, HG, bad, None, None)), InvalidCosts)

    def test_no_sentence(self):
        costs = ((1, 2), (3, 4), 5)
        for row in ((), ("a",)):
            self.assertIs(type(error_of(repair, BARREN, costs, row)), NoSentence)
            self.assertIs(type(error_of(panic, BARREN, costs[0], (), row)), NoSentence)
            self.assertEqual(set(least_costs(BARREN, costs, row)), {("A", begin, end) for begin, end in parts_up_to(len(row))})

    def test_steady(self):
        costs = ((1, 2), (3, 4), 5)
        check_steady(self, least_costs, [(IG, IC, ("gap",)), (HG, costs, ("a", "b")), (HG, costs[:2] + (1,), ("b",))])
        check_steady(self, repair, [(IG, IC, ("gap",)), (HG, costs, ("a", "b", "b")), (RINGS, ((1,), (1,), 1), ())])
        check_steady(self, complete, [(IG, IC[0], ("box",)), (HG, costs[0], ("a",)), (HG, costs[0], ("b", "b"))])
        check_steady(self, panic, [(IG, IC[0], ("gap",), ("box", "gap")), (HG, costs[0], (), ("b", "b"))])
        value = least_costs(HG, costs, ("a",))
        before = frozen(value)
        check_steady(self, is_bound, [(HG, costs, ("a",), value), (HG, costs, ("a",), {}), (HG, costs, ("a",), None)])
        self.assertEqual(frozen(value), before)
        value.clear()
        self.assertEqual(frozen(least_costs(HG, costs, ("a",))), before)


if __name__ == "__main__":
    unittest.main()
