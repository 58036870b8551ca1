import random
import unittest

from shiftroads.errors import InvalidDraft, InvalidSymbols, InvalidTree, TooMany
from shiftroads.grammars import is_grammar
from shiftroads.sugar import is_sweet_tree, plain_grammar, plain_tree, rule_notes, sweet_tree
from shiftroads.trees import is_tree
from tests.makers import bent, check_refusals, draft_with, error_of, frozen, is_plain_name, junk, nothing
from tests.makers import random_drafts


def draft_of(*lines, terminals=("a", "b", "c")):
    """A draft of lines, each a name and rows of items."""
    return (terminals, (), lines[0][0], tuple((line[0], tuple((row, None, None) for row in line[1:])) for line in lines))


def plain_names(draft):
    """The lists of a draft and their names, by a second way."""
    order = []
    for _, alternatives in draft[3]:
        for items, _, _ in alternatives:
            for item in items:
                if type(item) is tuple:
                    order.append(item)
                    if len(item) == 3 and item[0] == "*":
                        order.append(("+",) + item[1:])
    order = [item for at, item in enumerate(order) if item not in order[:at]]
    lines = [name for name, _ in draft[3]]
    free = [name for name in (f"L{number}" for number in range(1, 200)) if name not in lines]
    return dict(zip(order, free))


def told_rules(draft):
    """The plain rules by a second way: the table of the document."""
    names = plain_names(draft)
    rules = []
    for left, alternatives in draft[3]:
        for items, _, _ in alternatives:
            rules.append((left, tuple(names.get(item, item) for item in items)))
    for item, name in names.items():
        sign, x = item[:2]
        if len(item) == 2:
            rules += {
                "*": [(name, ()), (name, (name, x))],
                "+": [(name, (x,)), (name, (name, x))],
                "?": [(name, ()), (name, (x,))],
            }[sign]
        elif sign == "+":
            rules += [(name, (x,)), (name, (name, item[2], x))]
        else:
            rules += [(name, ()), (name, (names[("+",) + item[1:]],))]
    return tuple(rules)


def fits_bounds(draft):
    rules = told_rules(draft)
    return len(rules) <= 80 and len({left for left, _ in rules}) <= 40


def random_pair(rng, draft, symbol, depth):
    """A random sweet tree, its plain tree and its leaves, or None where the depth ends."""
    if symbol in draft[0]:
        return ((symbol,), (symbol,), (symbol,))
    if depth == 0:
        return None
    names = plain_names(draft)
    rules = told_rules(draft)
    choices = []
    for left, alternatives in draft[3]:
        for alternative in alternatives:
            choices.append((left, alternative[0]))
    index = rng.choice([at for at, (left, _) in enumerate(choices) if left == symbol])
    sweet, plain, leaves = (index,), (index,), ()
    for item in choices[index][1]:
        if type(item) is str:
            trees, head, run = [random_pair(rng, draft, item, depth - 1)], (), ()
        else:
            count = rng.randint(1 if item[0] == "+" else 0, 1 if item[0] == "?" else 3)
            trees = [random_pair(rng, draft, item[1], depth - 1) for _ in range(count)]
            if len(item) == 3:
                trees = [tree for one in trees for tree in (random_pair(rng, draft, item[2], depth - 1), one)][1:]
            head, run = (count,), plain_run(rules, names, item, count)
        if None in trees:
            return None
        sweet += head + tuple(part for tree in trees for part in tree[0])
        plain += run + tuple(part for tree in trees for part in tree[1])
        leaves += tuple(part for tree in trees for part in tree[2])
    return sweet, plain, leaves


def plain_run(rules, names, item, count):
    """The indices of the rules of a list that stand ahead of its trees: the plain tree grows to the left."""
    name = names[item]
    if len(item) == 3 and item[0] == "*":
        if count == 0:
            return (rules.index((name, ())),)
        inner = ("+",) + item[1:]
        return (rules.index((name, (names[inner],))),) + plain_run(rules, names, inner, count)
    if item[0] == "?":
        return (rules.index((name, (item[1],) * count)),)
    last = rules.index((name, () if item[0] == "*" else (item[1],)))
    more = rules.index((name, (name,) + item[2:] + (item[1],)))
    return (more,) * (count - (item[0] == "+")) + (last,)


def plain_sweet_end(draft, symbol, value, at):
    """A second way to read a sweet tree: the place behind it, or None."""
    if at is None or at >= len(value):
        return None
    if symbol in draft[0]:
        return at + 1 if type(value[at]) is str and value[at] == symbol else None
    choices = [(left, alternative[0]) for left, alternatives in draft[3] for alternative in alternatives]
    if type(value[at]) is not int or not 0 <= value[at] < len(choices) or choices[value[at]][0] != symbol:
        return None
    items = choices[value[at]][1]
    at += 1
    for item in items:
        if type(item) is str:
            at = plain_sweet_end(draft, item, value, at)
        else:
            if at >= len(value) or type(value[at]) is not int:
                return None
            count = value[at]
            if not (item[0] == "+") <= count <= (1 if item[0] == "?" else len(value)):
                return None
            at += 1
            for number in range(count):
                if number and len(item) == 3:
                    at = plain_sweet_end(draft, item[2], value, at)
                at = plain_sweet_end(draft, item[1], value, at)
                if at is None:
                    return None
        if at is None:
            return None
    return at


def is_plain_sweet(draft, symbol, value):
    return type(value) is tuple and len(value) <= 20000 and plain_sweet_end(draft, symbol, value, 0) == len(value)


def symbols_of_draft(draft):
    return [line[0] for line in draft[3]] + list(draft[0])


def some_pairs(seed, count, sizes=(3, 3, 3, 3)):
    rng = random.Random(seed)
    for draft in random_drafts(seed, count, sizes):
        if fits_bounds(draft):
            for symbol in symbols_of_draft(draft):
                pair = random_pair(rng, draft, symbol, 5)
                if pair is not None and len(pair[1]) < 2000:
                    yield (draft, symbol) + pair


class PlainRules(unittest.TestCase):
    def test_each_sort(self):
        for item, rules in (
            (("*", "a"), (("L1", ()), ("L1", ("L1", "a")))),
            (("+", "a"), (("L1", ("a",)), ("L1", ("L1", "a")))),
            (("?", "a"), (("L1", ()), ("L1", ("a",)))),
            (("+", "a", "b"), (("L1", ("a",)), ("L1", ("L1", "b", "a")))),
            (("*", "a", "b"), (("L1", ()), ("L1", ("L2",)), ("L2", ("a",)), ("L2", ("L2", "b", "a")))),
        ):
            told = plain_grammar(draft_of(("S", (item,))))
            self.assertEqual(told, (("a", "b", "c"), "S", (("S", ("L1",)),) + rules))

    def test_order_of_first_coming(self):
        star, plus, other = ("*", "a", "b"), ("+", "a", "b"), ("?", "c")
        told = plain_grammar(draft_of(("S", (other, star), (plus, star)), ("A", (other, ("*", "a")))))
        self.assertEqual(told[2][:3], (("S", ("L1", "L2")), ("S", ("L3", "L2")), ("A", ("L1", "L4"))))
        self.assertEqual([left for left, _ in told[2][3:]], ["L1", "L1", "L2", "L2", "L3", "L3", "L4", "L4"])
        told = plain_grammar(draft_of(("S", (plus, other, star))))
        self.assertEqual(told[2][0], ("S", ("L1", "L2", "L3")))
        self.assertEqual(told[2][5:], (("L3", ()), ("L3", ("L1",))))
        told = plain_grammar(draft_of(("S", (star, other, plus))))
        self.assertEqual(told[2][0], ("S", ("L1", "L3", "L2")))

    def test_taken_names(self):
        draft = draft_of(("L2", (("*", "a"), ("*", "b"))), ("L1", (("+", "c"), "L2")), ("L4", ()))
        self.assertEqual(plain_grammar(draft)[2][:3], (("L2", ("L3", "L5")), ("L1", ("L6", "L2")), ("L4", ())))

    def test_terminals_ascending(self):
        draft = draft_of(("S", ("c",)), terminals=("c", "a", "b"))
        self.assertEqual(plain_grammar(draft), (("a", "b", "c"), "S", (("S", ("c",)),)))

    def test_random(self):
        for draft in random_drafts(41, 400):
            if not fits_bounds(draft):
                continue
            before = frozen(draft)
            told = plain_grammar(draft)
            self.assertEqual(told, (tuple(sorted(draft[0])), draft[2], told_rules(draft)))
            self.assertTrue(is_grammar(told))
            notes = [(mark, action) for _, alternatives in draft[3] for _, mark, action in alternatives]
            self.assertEqual(rule_notes(draft), tuple(notes + [(None, None)] * (len(told[2]) - len(notes))))
            self.assertEqual(frozen(draft), before)

    def test_notes(self):
        draft = (("a",), (), "S", (("S", ((("a", ("?", "a")), "a", None), ((), None, "act"))),))
        self.assertEqual(rule_notes(draft), (("a", None), (None, "act"), (None, None), (None, None)))


def with_lists(lines, alternatives, lists):
    """A draft with so many lines, alternatives in all, and unlike lists, each with two plain rules."""
    names = [f"S{number}" for number in range(lines)]
    terminals = tuple(f"t{number}" for number in range(40))
    told = [(sign, name) for name in terminals for sign in "*+?"][:lists]
    rows = [tuple(told[at * 8:at * 8 + 8]) + (("t0",) * 0) for at in range(alternatives)]
    rows = [row or tuple(terminals[at >> place & 1] for place in range(7)) for at, row in enumerate(rows)]
    held = [[] for _ in names]
    for at, row in enumerate(rows):
        held[at % lines].append((row, None, None))
    return (terminals, (), "S0", tuple((name, tuple(row)) for name, row in zip(names, held)))


class Limits(unittest.TestCase):
    def check(self, draft, limit):
        calls = (
            (plain_grammar, (draft,)), (rule_notes, (draft,)), (is_sweet_tree, (draft, None, None)),
            (sweet_tree, (draft, None)), (plain_tree, (draft, None)),
        )
        for function, arguments in calls:
            error = error_of(function, *arguments)
            self.assertIs(type(error), TooMany, function)
            self.assertEqual(error.limit, limit)

    def test_rules(self):
        self.assertEqual(len(plain_grammar(with_lists(1, 70, 5))[2]), 80)
        self.check(with_lists(1, 70, 6), 80)
        self.check(with_lists(1, 71, 5), 80)
        self.assertEqual(len(plain_grammar(draft_with(alternatives=80))[2]), 80)

    def test_nonterminals(self):
        self.assertEqual(len({left for left, _ in plain_grammar(with_lists(30, 30, 10))[2]}), 40)
        self.check(with_lists(31, 31, 10), 40)
        self.check(with_lists(30, 30, 11), 40)
        self.assertEqual(len({left for left, _ in plain_grammar(draft_with(lines=40, alternatives=80))[2]}), 40)

    def test_both(self):
        self.check(with_lists(40, 40, 21), 80)
        self.check(with_lists(40, 40, 20), 40)

    def test_parted_star_counts_twice(self):
        stars = [("*", name, other) for name in "abc" for other in "abc"][:8]
        draft = draft_of(("S", tuple(stars)))
        self.assertEqual(len(plain_grammar(draft)[2]), 33)
        self.assertEqual(len({left for left, _ in plain_grammar(draft)[2]}), 17)

    def test_draft_comes_first(self):
        for function in (plain_grammar, rule_notes, sweet_tree, plain_tree, is_sweet_tree):
            arguments = [draft_with(items=9)] + [None] * {plain_grammar: 0, rule_notes: 0, is_sweet_tree: 2}.get(function, 1)
            self.assertIs(type(error_of(function, *arguments)), InvalidDraft)


class Trees(unittest.TestCase):
    def test_there_and_back(self):
        found = 0
        for draft, symbol, sweet, plain, leaves in some_pairs(42, 400):
            found += 1
            self.assertTrue(is_tree(plain_grammar(draft), symbol, plain))
            self.assertIs(is_sweet_tree(draft, symbol, sweet), True)
            self.assertEqual(sweet_tree(draft, plain), sweet)
            self.assertEqual(plain_tree(draft, sweet), plain)
            self.assertEqual(tuple(item for item in sweet if type(item) is str), leaves)
            self.assertEqual(tuple(item for item in plain if type(item) is str), leaves)
        self.assertGreater(found, 500)

    def test_bent(self):
        found = 0
        for draft, symbol, sweet, plain, _ in some_pairs(43, 60, (2, 2, 2, 2)):
            if len(plain) > 14:
                continue
            grammar = plain_grammar(draft)
            for value in bent(sweet):
                told = is_plain_sweet(draft, symbol, value)
                self.assertIs(is_sweet_tree(draft, symbol, value), told, (draft, value))
                found += not told
                if not any(is_plain_sweet(draft, other, value) for other in symbols_of_draft(draft)):
                    self.assertIs(type(error_of(plain_tree, draft, value)), InvalidTree, value)
            for value in bent(plain):
                if not any(is_tree(grammar, other, value) for other in symbols_of_draft(draft)):
                    self.assertIs(type(error_of(sweet_tree, draft, value)), InvalidTree, value)
        self.assertGreater(found, 1000)

    def test_empty_and_nested_lists(self):
        draft = draft_of(("S", (("*", "A", "B"), ("?", "S"))), ("A", (("+", "B"),)), ("B", ("b",), (("*", "a"),)))
        sweet = (0, 2, 1, 1, 2, "b", 3, 0, 1, 2, 3, 2, "a", "a", 2, "b", 1, 0, 0, 0)
        self.assertTrue(is_sweet_tree(draft, "S", sweet))
        plain = plain_tree(draft, sweet)
        self.assertTrue(is_tree(plain_grammar(draft), "S", plain))
        self.assertEqual(sweet_tree(draft, plain), sweet)
        self.assertEqual(plain_tree(draft, (0, 0, 0)), (0, 4, 8))
        self.assertEqual(sweet_tree(draft, (0, 4, 8)), (0, 0, 0))

    def test_numbers(self):
        draft = draft_of(("S", (("*", "a"),)), ("A", (("+", "a"),)), ("B", (("?", "a"),)))
        for symbol, index, counts in (("S", 0, (0, 1, 2, 3)), ("A", 1, (1, 2, 3)), ("B", 2, (0, 1))):
            for count in range(4):
                self.assertIs(is_sweet_tree(draft, symbol, (index, count) + ("a",) * count), count in counts)
            self.assertFalse(is_sweet_tree(draft, symbol, (index, -1)))
            self.assertFalse(is_sweet_tree(draft, symbol, (index, True, "a")))
            self.assertFalse(is_sweet_tree(draft, symbol, (index, False)))
            self.assertFalse(is_sweet_tree(draft, symbol, (index, 10 ** 119, "a")))
            self.assertFalse(is_sweet_tree(draft, symbol, (index, 2, "a")))
            self.assertFalse(is_sweet_tree(draft, symbol, (index, 1, "a", "a")))

    def test_trees_of_lists_are_none(self):
        draft = draft_of(("S", (("*", "a"),)))
        self.assertIs(type(error_of(sweet_tree, draft, (1,))), InvalidTree)
        self.assertIs(type(error_of(sweet_tree, draft, (2, 1, "a"))), InvalidTree)
        self.assertIs(type(error_of(is_sweet_tree, draft, "L1", (1,))), InvalidSymbols)
        self.assertIs(type(error_of(plain_tree, draft, (1,))), InvalidTree)
        self.assertIs(type(error_of(sweet_tree, draft, (0, 2, 2, 1, "a"))), InvalidTree)

    def test_open_trees_are_none(self):
        draft = draft_of(("S", ("A", ("*", "a"))), ("A", ()))
        self.assertIs(type(error_of(sweet_tree, draft, ("S",))), InvalidTree)
        self.assertIs(type(error_of(sweet_tree, draft, (0, "A", 2))), InvalidTree)
        self.assertIs(type(error_of(sweet_tree, draft, (0, 1, "L1"))), InvalidTree)
        self.assertIs(type(error_of(plain_tree, draft, (0, "A", 0))), InvalidTree)
        self.assertEqual(sweet_tree(draft, ("a",)), ("a",))
        self.assertEqual(plain_tree(draft, ("a",)), ("a",))

    def test_long(self):
        draft = draft_of(("S", (("*", "a"),)))
        sweet = (0, 9998) + ("a",) * 9998
        self.assertEqual(len(plain_tree(draft, sweet)), 19998)
        self.assertEqual(sweet_tree(draft, plain_tree(draft, sweet)), sweet)
        self.assertEqual(len(plain_tree(draft, (0, 9999) + ("a",) * 9999)), 20000)
        error = error_of(plain_tree, draft, (0, 10000) + ("a",) * 10000)
        self.assertIs(type(error), TooMany)
        self.assertEqual(error.limit, 20000)
        sweet = (0, 19998) + ("a",) * 19998
        self.assertTrue(is_sweet_tree(draft, "S", sweet))
        self.assertIs(type(error_of(plain_tree, draft, sweet)), TooMany)
        self.assertIs(type(error_of(plain_tree, draft, sweet[:-1] + ("b",))), InvalidTree)
        sweet = (0, 19999) + ("a",) * 19999
        self.assertFalse(is_sweet_tree(draft, "S", sweet))
        self.assertIs(type(error_of(plain_tree, draft, sweet)), InvalidTree)

    def test_many_great_numbers(self):
        draft = draft_of(("S", (("*", "S"),)))
        self.assertFalse(is_sweet_tree(draft, "S", (0, 9000) * 10000))
        self.assertTrue(is_sweet_tree(draft, "S", (0, 1) * 9999 + (0, 0)))

    def test_same_number_of_trees(self):
        draft = draft_of(("S", (("*", "S", "a"), ("?", "a"))), ("A", (("+", "a", "b"), ("*", "b"))))
        grammar = plain_grammar(draft)
        rng = random.Random(44)
        for symbol in ("S", "A"):
            pairs = {pair[:2] for pair in (random_pair(rng, draft, symbol, 4) for _ in range(500)) if pair}
            self.assertEqual(len({sweet for sweet, _ in pairs}), len(pairs))
            self.assertEqual(len({plain for _, plain in pairs}), len(pairs))
            self.assertTrue(all(is_tree(grammar, symbol, plain) for _, plain in pairs))


class Refusals(unittest.TestCase):
    def test_all(self):
        draft = draft_of(("S", ("num", ("*", "N"))), ("N", ("num",)), terminals=("num",))
        plain = plain_tree(draft, (0, "num", 1, 1, "num"))

        def is_symbol(value):
            return is_plain_name(value, "small") and value == "num" or value in ("S", "N")

        check_refusals(self, plain_grammar, (draft,), (InvalidDraft,), (nothing,))
        check_refusals(self, rule_notes, (draft,), (InvalidDraft,), (nothing,))
        errors = (InvalidDraft, InvalidSymbols, None)
        check_refusals(self, is_sweet_tree, (draft, "S", ()), errors, (nothing, is_symbol, None))
        errors = (InvalidDraft, InvalidTree)
        check_refusals(self, sweet_tree, (draft, plain), errors, (nothing, nothing))
        check_refusals(self, plain_tree, (draft, ("num",)), errors, (nothing, nothing))
        for value in junk():
            self.assertIs(is_sweet_tree(draft, "S", value), False)


if __name__ == "__main__":
    unittest.main()
