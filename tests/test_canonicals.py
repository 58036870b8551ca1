import random
import unittest

from shiftroads.automata import states_of
from shiftroads.canonicals import canonical_states, canonical_ways, valid_lots
from shiftroads.errors import InvalidGrammar, InvalidSymbols
from tests.makers import C, EG, F, FC, FL, G, GG, LOST, RINGS, STARS, check_refusals, check_steady, check_too_many
from tests.makers import contexts_up_to, error_of, fan, flat, is_symbol_row, letters_of, nothing, plain_canonical
from tests.makers import random_grammars, told_state, walked


def grammars(seed, count):
    return [EG, G, F, C, FL, FC, GG, RINGS, LOST, STARS] + random_grammars(seed, count)


class States(unittest.TestCase):
    def test_against_a_plain_way(self):
        empty = 0
        for grammar in grammars(124, 300):
            states, ways = plain_canonical(grammar)
            told = canonical_states(grammar)
            self.assertIs(type(told), list)
            self.assertEqual(told, [told_state(state) for state in states], grammar)
            self.assertEqual(canonical_ways(grammar), ways)
            empty += any(lot == () for state in told for _, _, lot in state)
        self.assertGreater(empty, 10)

    def test_items_once(self):
        for grammar in grammars(125, 60):
            for state in canonical_states(grammar):
                core = tuple((rule, place) for rule, place, _ in state)
                self.assertEqual(list(core), sorted(set(core)))
                self.assertIn(core, states_of(grammar))

    def test_by_hand(self):
        self.assertEqual(
            canonical_states((("a",), "S", (("S", ()), ("S", ("a", "S", "S"))))) [0],
            ((-1, 0, (None,)), (0, 0, (None,)), (1, 0, (None,))),
        )
        self.assertEqual(canonical_states(EG)[2], ((0, 0, (None,)), (0, 1, (None,)), (1, 0, (None,))))
        self.assertEqual(canonical_ways(EG), [(("S", 1), ("b", 2), ("c", 3)), (), (("S", 4), ("b", 2), ("c", 3)), (), ()])
        dead = (("a", "b"), "S", (("S", ("A", "B")), ("B", ("B",)), ("A", ("b",))))
        self.assertEqual(canonical_states(dead)[0], ((-1, 0, (None,)), (0, 0, (None,)), (2, 0, ())))
        self.assertEqual(valid_lots(dead, ("b",)), ((2, 1, ()),))
        self.assertEqual(valid_lots(F, ("A", "A")), ((0, 0, ("b",)), (0, 1, ("b",)), (1, 0, ("b",)), (2, 0, ("a", "b")), (3, 0, ("a", "b"))))

    def test_many(self):
        for grammar, count in ((fan(9, 219), 2000), (fan(5, 310), 1567), (fan(9, 19), 200), (flat(602), 602)):
            self.assertEqual(len(canonical_states(grammar)), count)
            self.assertEqual(len(canonical_ways(grammar)), count)
        grammar = fan(9, 219)
        self.assertEqual(valid_lots(grammar, ("a03", "X")), ((3, 2, (None,)),))
        self.assertEqual(valid_lots(grammar, ("a03", "a27", "a00", "a00")), ((len(grammar[2]) - 1, 3, ("a03",)),))


class Contexts(unittest.TestCase):
    def test_valid_lots(self):
        rng = random.Random(126)
        nowhere = 0
        for grammar in grammars(127, 80):
            states, ways = plain_canonical(grammar)
            symbols = list(grammar[0]) + letters_of(grammar)
            rows = [row for row, _ in contexts_up_to(ways, 3)]
            rng.shuffle(rows)
            rows = rows[:15] + [tuple(rng.choice(symbols) for _ in range(rng.randint(0, 4))) for _ in range(8)]
            for row in rows:
                state = walked(ways, row)
                nowhere += state is None
                self.assertEqual(valid_lots(grammar, row), () if state is None else told_state(states[state]))
        self.assertGreater(nowhere, 50)
        self.assertEqual(valid_lots(EG, ("b",) * 400), canonical_states(EG)[2])
        self.assertEqual(valid_lots(EG, ("S", "S")), ())


class Refusals(unittest.TestCase):
    def test_kinds(self):
        for function in (canonical_states, canonical_ways):
            check_refusals(self, function, (FL,), (InvalidGrammar,), (nothing,))
            check_steady(self, function, [(FL,), (FC,), (F,)])
        errors = (InvalidGrammar, InvalidSymbols)
        check_refusals(self, valid_lots, (FC, ("up",)), errors, (nothing, is_symbol_row(FC)))
        check_steady(self, valid_lots, [(FC, ("up",)), (F, ()), (G, ("plus",))])
        for row in (("b",) * 401, ["b"], ("x",), "b", ("b", None)):
            self.assertIs(type(error_of(valid_lots, EG, row)), InvalidSymbols)

    def test_too_many(self):
        for grammar in (fan(9, 219, 1), fan(20, 318, 20)):
            check_too_many(self, 2000, canonical_states, grammar)
            check_too_many(self, 2000, canonical_ways, grammar)
            check_too_many(self, 2000, valid_lots, grammar, ())
            check_too_many(self, 2000, valid_lots, grammar, ("S", "S"))
            self.assertIs(type(error_of(valid_lots, grammar, ("S", "T"))), InvalidSymbols)
        self.assertEqual(len(plain_canonical(fan(9, 219, 1))[0]), 2001)


if __name__ == "__main__":
    unittest.main()
