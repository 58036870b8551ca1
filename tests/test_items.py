import random
import unittest

from shiftroads.errors import InvalidGrammar, InvalidItems, InvalidSpine, InvalidSymbols
from shiftroads.items import closed, context_by, is_spine, items_of, moved
from tests.makers import C, EG, F, FC, FL, G, LOST, RINGS, all_items, behind_item, bent, check_refusals, check_steady
from tests.makers import error_of, is_plain_item, junk, letters_of, nothing, plain_closed, plain_moved, random_grammars
from tests.makers import right_side


def grammars(seed, count):
    return [EG, G, F, C, FL, FC, RINGS, LOST] + random_grammars(seed, count)


def is_plain_lot(grammar):
    def tells(value):
        if type(value) is not tuple or not all(is_plain_item(grammar, item) for item in value):
            return False
        return list(value) == sorted(set(value))
    return tells


def is_plain_spine(grammar, value):
    """A second way to tell spines."""
    if type(value) is not tuple or not 1 <= len(value) <= 20000:
        return False
    if not all(is_plain_item(grammar, item) for item in value) or value[0] not in ((-1, 0), (-1, 1)):
        return False
    for one, other in zip(value, value[1:]):
        if other[0] == -1 or behind_item(grammar, one) != (grammar[2][other[0]][0],):
            return False
    return True


def random_spine(rng, grammar, most):
    """A spine of at most so many items."""
    spine = [(-1, rng.choice((0, 0, 0, 1)))]
    while len(spine) < most:
        rules = [at for at, (left, _) in enumerate(grammar[2]) if behind_item(grammar, spine[-1]) == (left,)]
        if not rules:
            break
        rule = rng.choice(rules)
        spine.append((rule, rng.randint(0, len(grammar[2][rule][1]))))
    return tuple(spine)


class Items(unittest.TestCase):
    def test_items_of(self):
        for grammar in grammars(101, 60):
            told = items_of(grammar)
            self.assertEqual(told, tuple(all_items(grammar)))
            self.assertEqual(list(told), sorted(set(told)))
        self.assertEqual(items_of((("a",), "S", (("S", ()),))), ((-1, 0), (-1, 1), (0, 0)))
        self.assertEqual(items_of((("a",), "S", (("S", ("a",) * 8),)))[2:], tuple((0, place) for place in range(9)))

    def test_closed(self):
        rng = random.Random(102)
        for grammar in grammars(103, 150):
            items = all_items(grammar)
            lots = [(), tuple(items)] + [(item,) for item in items]
            lots += [tuple(sorted(rng.sample(items, rng.randint(1, len(items))))) for _ in range(6)]
            for lot in lots:
                told = closed(grammar, lot)
                self.assertEqual(told, plain_closed(grammar, lot), (grammar, lot))
                self.assertEqual(closed(grammar, told), told)

    def test_moved(self):
        rng = random.Random(104)
        for grammar in grammars(105, 100):
            items = all_items(grammar)
            lots = [(), tuple(items)]
            lots += [tuple(sorted(rng.sample(items, rng.randint(1, len(items))))) for _ in range(6)]
            for lot in lots:
                for symbol in list(grammar[0]) + letters_of(grammar):
                    self.assertEqual(moved(grammar, lot, symbol), plain_moved(grammar, lot, symbol))

    def test_by_hand(self):
        self.assertEqual(closed(EG, ((-1, 0),)), ((-1, 0), (0, 0), (1, 0)))
        self.assertEqual(closed(EG, ((-1, 1), (0, 2))), ((-1, 1), (0, 2)))
        self.assertEqual(closed(F, ((0, 1),)), ((0, 0), (0, 1), (1, 0), (2, 0), (3, 0)))
        self.assertEqual(moved(EG, ((-1, 0), (0, 1)), "S"), ((-1, 1), (0, 2)))
        self.assertEqual(moved(EG, ((0, 0), (0, 1)), "b"), ((0, 0), (0, 1), (1, 0)))

    def test_eighty_rules(self):
        names = [f"N{at}" for at in range(40)]
        rules = [(name, (after,) * 8) for name, after in zip(names, names[1:] + names[:1])] + [(name, ()) for name in names]
        grammar = (("a",), "N0", tuple(rules))
        self.assertEqual(len(items_of(grammar)), 2 + 40 * 9 + 40)
        self.assertEqual(len(closed(grammar, ((5, 0),))), 80)
        self.assertEqual(moved(grammar, items_of(grammar), "a"), ())
        self.assertEqual(len(moved(grammar, items_of(grammar), "N1")), 80 + 8)

    def test_steady(self):
        check_steady(self, items_of, [(EG,), (G,), (F,)])
        check_steady(self, closed, [(EG, ((0, 1),)), (G, ()), (F, ((-1, 0),))])
        check_steady(self, moved, [(EG, ((0, 0),), "b"), (G, (), "S"), (F, ((-1, 0),), "S")])

    def test_refused(self):
        fine = (nothing, is_plain_lot(EG), lambda value: type(value) is str and value in ("S", "b", "c"))
        check_refusals(self, items_of, (EG,), (InvalidGrammar,), fine)
        check_refusals(self, closed, (EG, ((0, 1),)), (InvalidGrammar, InvalidItems), fine)
        check_refusals(self, moved, (EG, ((0, 1),), "S"), (InvalidGrammar, InvalidItems, InvalidSymbols), fine)

    def test_bent_lots(self):
        for lot in (((-1, 0), (0, 1), (1, 0)), ((0, 2),), ()):
            for value in bent(lot):
                told = error_of(closed, EG, value)
                self.assertEqual(told is None, is_plain_lot(EG)(value), value)
                self.assertIs(type(error_of(moved, EG, value, "b")), type(told))
                if told is not None:
                    self.assertIs(type(told), InvalidItems)
        for lot in (((0, 1), (0, 0)), ((0, 1), (0, 1)), ((0, 3),), ((1, 2),), ((-1, 2),), ((-2, 0),), ((2, 0),), ((0, -1),)):
            self.assertIs(type(error_of(closed, EG, lot)), InvalidItems)
            self.assertIs(type(error_of(moved, EG, lot, "?")), InvalidItems)


class Spines(unittest.TestCase):
    def test_random(self):
        rng = random.Random(106)
        for grammar in grammars(107, 60):
            for _ in range(6):
                spine = random_spine(rng, grammar, rng.choice((1, 2, 4, 7)))
                self.assertTrue(is_spine(grammar, spine))
                context = tuple(name for rule, place in spine for name in right_side(grammar, rule)[:place])
                self.assertEqual(context_by(grammar, spine), context)

    def test_bent(self):
        rng = random.Random(108)
        right = 0
        for grammar in grammars(109, 30):
            for value in bent(random_spine(rng, grammar, 4)):
                self.assertIs(is_spine(grammar, value), is_plain_spine(grammar, value), (grammar, value))
                right += is_plain_spine(grammar, value)
                told = error_of(context_by, grammar, value)
                self.assertIs(type(told), type(None) if is_plain_spine(grammar, value) else InvalidSpine)
        self.assertGreater(right, 100)

    def test_edges(self):
        self.assertTrue(is_spine(EG, ((-1, 0),)))
        self.assertTrue(is_spine(EG, ((-1, 1),)))
        for value in ((), ((0, 0),), ((-1, 2),), ((-1, 0), (-1, 0)), ((-1, 1), (0, 0)), ((-1, 0), (1, 1), (0, 0))):
            self.assertFalse(is_spine(EG, value), value)
        self.assertEqual([context_by(EG, ((-1, 0),)), context_by(EG, ((-1, 1),))], [(), ("S",)])

    def test_long(self):
        spine = ((-1, 0),) + ((0, 1),) * 19998 + ((1, 1),)
        self.assertTrue(is_spine(EG, spine))
        self.assertEqual(context_by(EG, spine), ("b",) * 19998 + ("c",))
        self.assertFalse(is_spine(EG, spine[:-1] + ((0, 1),) + spine[-1:]))
        self.assertFalse(is_spine(EG, spine[:10000] + ((0, 0),) + spine[10001:]))
        wide = (("a",), "S", (("S", ("a",) * 7 + ("S",)), ("S", ())))
        self.assertEqual(context_by(wide, ((-1, 0),) + ((0, 7),) * 19999), ("a",) * 7 * 19999)

    def test_refused(self):
        spine = ((-1, 0), (0, 1))
        fine = (nothing, lambda value: is_plain_spine(EG, value))
        check_refusals(self, is_spine, (EG, spine), (InvalidGrammar, None), fine)
        check_refusals(self, context_by, (EG, spine), (InvalidGrammar, InvalidSpine), fine)
        for value in junk():
            self.assertIs(is_spine(EG, value), False)
        check_steady(self, context_by, [(EG, spine), (G, ((-1, 1),))])


if __name__ == "__main__":
    unittest.main()
