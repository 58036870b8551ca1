import itertools
import random
import unittest

from shiftroads.automata import least_context, spine_for, state_by, states_of, valid_items, ways_of
from shiftroads.errors import InvalidGrammar, InvalidItem, InvalidNumber, InvalidSymbols, TooMany
from shiftroads.items import closed, context_by, is_spine, items_of
from tests.makers import C, EG, F, FC, FL, G, GG, LOST, RINGS, STARS, all_items, behind_item, check_refusals, check_steady
from tests.makers import check_too_many, contexts_up_to, error_of, flat, frozen, is_plain_item, is_symbol_row, letters_of
from tests.makers import nothing, plain_automaton, random_grammars, right_side, walked


def grammars(seed, count):
    return [EG, G, F, C, FL, FC, GG, RINGS, LOST, STARS] + random_grammars(seed, count)


def plain_valid(grammar, context):
    """A second way: the last items of all spines that lead by a context, found through pairs of a place and an item."""
    found = {(place, (-1, place)) for place in (0, 1) if (grammar[1],)[:place] == context[:place] and place <= len(context)}
    before = None
    while before != found:
        before = set(found)
        for at, item in before:
            for rule, (left, right) in enumerate(grammar[2]):
                for place in range(len(right) + 1):
                    if behind_item(grammar, item) == (left,) and context[at:at + place] == right[:place]:
                        found.add((at + place, (rule, place)))
    return tuple(sorted(item for at, item in found if at == len(context)))


class States(unittest.TestCase):
    def test_against_a_plain_way(self):
        for grammar in grammars(111, 250):
            states, ways = plain_automaton(grammar)
            self.assertEqual(states_of(grammar), tuple(states), grammar)
            self.assertEqual(ways_of(grammar), tuple(ways))

    def test_closed(self):
        for grammar in grammars(112, 60):
            for number, state in enumerate(states_of(grammar)):
                self.assertEqual(closed(grammar, state), state)
                kernel = tuple(item for item in state if item[1] > 0 or (number == 0 and item == (-1, 0)))
                self.assertEqual(closed(grammar, kernel), state)

    def test_by_hand(self):
        self.assertEqual(len(states_of(FL)), 13)
        self.assertEqual(states_of((("a",), "S", (("S", ()),))), (((-1, 0), (0, 0)), ((-1, 1),)))
        self.assertEqual(ways_of((("a",), "S", (("S", ()),))), ((("S", 1),), ()))
        self.assertEqual(states_of(G)[:3], (((-1, 0), (0, 0), (1, 0), (2, 0)), ((1, 1),), ((-1, 1), (0, 1))))
        self.assertEqual(ways_of(G)[0], (("N", 1), ("S", 2), ("num", 3)))

    def test_many(self):
        for count in (399, 400):
            grammar = flat(count)
            self.assertEqual(len(plain_automaton(grammar)[0]), count)
            self.assertEqual(len(states_of(grammar)), count)
            self.assertEqual(len(ways_of(grammar)), count)
            self.assertEqual(len(least_context(grammar, count - 1)), 8)

    def test_refused(self):
        for function in (states_of, ways_of):
            check_refusals(self, function, (EG,), (InvalidGrammar,), (nothing,))
            check_steady(self, function, [(EG,), (F,), (G,), (RINGS,)])


class Contexts(unittest.TestCase):
    def test_state_by(self):
        rng = random.Random(113)
        for grammar in grammars(114, 80):
            ways = plain_automaton(grammar)[1]
            symbols = list(grammar[0]) + letters_of(grammar)
            rows = [row for row, _ in contexts_up_to(ways, 3)]
            rows += [tuple(rng.choice(symbols) for _ in range(rng.randint(1, 5))) for _ in range(10)]
            for row in rows[:80]:
                self.assertEqual(state_by(grammar, row), walked(ways, row))

    def test_valid_items(self):
        rng = random.Random(115)
        empty = 0
        for grammar in grammars(116, 60):
            ways = plain_automaton(grammar)[1]
            symbols = list(grammar[0]) + letters_of(grammar)
            rows = [row for row, _ in contexts_up_to(ways, 3)]
            rng.shuffle(rows)
            rows = rows[:12] + [tuple(rng.choice(symbols) for _ in range(rng.randint(0, 4))) for _ in range(5)]
            for row in rows:
                told = valid_items(grammar, row)
                self.assertEqual(told, plain_valid(grammar, row), (grammar, row))
                empty += not told
                self.assertEqual(told == (), state_by(grammar, row) is None)
        self.assertGreater(empty, 50)

    def test_spines(self):
        rng = random.Random(117)
        for grammar in grammars(118, 40):
            rows = [row for row, _ in contexts_up_to(plain_automaton(grammar)[1], 4)]
            rng.shuffle(rows)
            for row in rows[:6] + [(), (grammar[1],), (grammar[1],) * 2]:
                valid = plain_valid(grammar, row)
                for item in all_items(grammar):
                    spine = spine_for(grammar, row, item)
                    if item not in valid:
                        self.assertIsNone(spine)
                        continue
                    self.assertTrue(is_spine(grammar, spine))
                    self.assertEqual(spine[-1], item)
                    self.assertEqual(context_by(grammar, spine), row)

    def test_long_spines(self):
        row = ("b",) * 400
        self.assertEqual(spine_for(EG, row, (1, 0)), ((-1, 0),) + ((0, 1),) * 400 + ((1, 0),))
        self.assertIsNone(spine_for(EG, row, (1, 1)))
        self.assertEqual(valid_items(EG, row), states_of(EG)[2])
        names = [f"N{at}" for at in range(40)]
        rules = [(name, (after,)) for name, after in zip(names, names[1:])] + [("N39", ("a", "N0")), ("N39", ())]
        grammar = (("a",), "N0", tuple(rules))
        spine = spine_for(grammar, ("a",) * 400, (40, 0))
        self.assertEqual(len(spine), 1 + 401 * 40)
        self.assertTrue(is_spine(grammar, spine))
        self.assertEqual(context_by(grammar, spine), ("a",) * 400)
        left = (("a", "b"), "S", (("S", ("S", "a")), ("S", ("b",))))
        self.assertTrue(is_spine(left, spine_for(left, ("S",), (0, 1))))

    def test_by_hand(self):
        self.assertEqual(spine_for(EG, (), (-1, 0)), ((-1, 0),))
        self.assertEqual(spine_for(EG, ("S",), (-1, 1)), ((-1, 1),))
        self.assertIsNone(spine_for(EG, ("S",), (-1, 0)))
        self.assertIsNone(spine_for(EG, ("b",), (-1, 1)))
        self.assertIsNone(spine_for(EG, ("S", "S"), (1, 0)))
        self.assertEqual(valid_items(EG, ("S", "b")), ())
        self.assertEqual(valid_items(LOST, ("a", "B")), ((0, 2),))

    def test_least_contexts(self):
        for grammar in grammars(119, 60):
            ways = plain_automaton(grammar)[1]
            symbols = sorted(set(grammar[0]) | set(letters_of(grammar)))
            met = {}
            length = 0
            rows = [((), 0)]
            while rows:
                for row, state in rows:
                    met.setdefault(state, []).append(row)
                nexts = {target for _, state in rows for _, target in ways[state]} - set(met)
                length += 1
                rows = [
                    (row + (symbol,), target) for row, state in rows for symbol, target in ways[state] if target in nexts
                ]
            self.assertEqual(sorted(met), list(range(len(ways))))
            for state in met:
                told = least_context(grammar, state)
                self.assertEqual(told, min(met[state]))
                self.assertEqual(state_by(grammar, told), state)
                if len(told) < 4 and len(symbols) ** len(told) < 700:
                    shorter = [row for most in range(len(told)) for row in itertools.product(symbols, repeat=most)]
                    self.assertFalse(any(walked(ways, row) == state for row in shorter))

    def test_unlike_states(self):
        for grammar in grammars(120, 40):
            states = states_of(grammar)
            self.assertEqual(len(set(states)), len(states))
            for number in range(len(states)):
                self.assertEqual(valid_items(grammar, least_context(grammar, number)), states[number])


class Refusals(unittest.TestCase):
    def test_kinds(self):
        row = is_symbol_row(EG)
        check_refusals(self, state_by, (EG, ("b",)), (InvalidGrammar, InvalidSymbols), (nothing, row))
        check_refusals(self, valid_items, (EG, ("b",)), (InvalidGrammar, InvalidSymbols), (nothing, row))
        fine = (nothing, row, lambda value: is_plain_item(EG, value))
        errors = (InvalidGrammar, InvalidSymbols, InvalidItem)
        check_refusals(self, spine_for, (EG, ("b",), (1, 0)), errors, fine)
        fine = (nothing, lambda value: type(value) is int and 0 <= value < 5)
        check_refusals(self, least_context, (EG, 0), (InvalidGrammar, InvalidNumber), fine)
        for item in ((0, 3), (2, 0), (-2, 0), (-1, 2), (0, True), (True, 0), [0, 0], (0,), (0, 0, 0)):
            self.assertIs(type(error_of(spine_for, EG, ("b",), item)), InvalidItem)
        for state in (-1, 5, True, None, "0", 10 ** 119):
            self.assertIs(type(error_of(least_context, EG, state)), InvalidNumber)
        for function in (state_by, valid_items):
            for context in (("b",) * 401, ["b"], ("x",), "b", (("b",),), ("b", None)):
                self.assertIs(type(error_of(function, EG, context)), InvalidSymbols)

    def test_too_many(self):
        grammar = flat(401)
        self.assertEqual(len(plain_automaton(grammar)[0]), 401)
        for function, arguments in (
            (states_of, ()), (ways_of, ()), (state_by, ((),)), (valid_items, ((),)), (spine_for, ((), (0, 0))),
            (least_context, (0,)), (least_context, (-1,)), (least_context, (None,)), (state_by, (("S", "S"),)),
        ):
            check_too_many(self, 400, function, grammar, *arguments)
        self.assertIs(type(error_of(state_by, grammar, ("x",))), InvalidSymbols)
        self.assertIs(type(error_of(valid_items, grammar, None)), InvalidSymbols)
        self.assertIs(type(error_of(spine_for, grammar, (), (0, 9))), InvalidItem)
        self.assertIs(type(error_of(spine_for, grammar, None, (0, 9))), InvalidSymbols)
        self.assertEqual(len(items_of(grammar)), sum(len(right_side(grammar, rule)) + 1 for rule in range(-1, len(grammar[2]))))

    def test_steady(self):
        check_steady(self, state_by, [(EG, ("b",)), (F, ()), (G, ("S", "plus"))])
        check_steady(self, valid_items, [(EG, ("b",)), (F, ()), (G, ("S", "plus"))])
        check_steady(self, spine_for, [(EG, ("b",), (1, 0)), (F, (), (3, 0)), (G, ("S", "plus"), (2, 0))])
        check_steady(self, least_context, [(EG, 4), (F, 1), (G, 2)])
        before = frozen(EG)
        self.assertIsInstance(error_of(least_context, EG, 9), InvalidNumber)
        self.assertEqual(frozen(EG), before)
        self.assertNotIsInstance(error_of(states_of, EG), TooMany)


if __name__ == "__main__":
    unittest.main()
