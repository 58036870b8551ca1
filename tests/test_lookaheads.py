import unittest

from shiftroads.automata import states_of
from shiftroads.canonicals import valid_lots
from shiftroads.errors import InvalidGrammar
from shiftroads.lookaheads import lalr_lots, slr_lots
from tests.makers import APART, C, EG, F, FC, FL, G, GG, LOST, PLUS, RINGS, STARS, THREE, behind_item, check_refusals
from tests.makers import check_steady, check_too_many, contexts_up_to, error_of, fan, flat, nothing, plain_automaton
from tests.makers import plain_canonical, plain_core, plain_lot, random_grammars, whole_of
from tests.test_follows import plain_follows


def grammars(seed, count):
    return [EG, G, F, C, FL, FC, GG, RINGS, LOST, STARS, APART, THREE, PLUS] + random_grammars(seed, count)


def plain_slr(grammar):
    follows = plain_follows(grammar)
    return [
        tuple((rule, (None,) if rule == -1 else plain_lot(follows[grammar[2][rule][0]])) for rule, _ in whole_of(grammar, state))
        for state in plain_automaton(grammar)[0]
    ]


def plain_lalr(grammar):
    canonicals = plain_canonical(grammar)[0]
    found = []
    for state in plain_automaton(grammar)[0]:
        alike = [other for other in canonicals if plain_core(other) == state]
        pairs = []
        for item in whole_of(grammar, state):
            tokens = {token for other in alike for rule, place, token in other if (rule, place) == item}
            pairs.append((item[0], plain_lot(tokens)))
        found.append(tuple(pairs))
    return found


def clashes(grammar, lots):
    """Whether states, with some lots, have two deeds for a token."""
    ways = plain_automaton(grammar)[1]
    for row, pairs in zip(ways, lots):
        tokens = [token for _, lot in pairs for token in lot] + [symbol for symbol, _ in row if symbol in grammar[0]]
        if len(set(tokens)) < len(tokens):
            return True
    return False


class Lots(unittest.TestCase):
    def test_slr(self):
        for grammar in grammars(131, 250):
            told = slr_lots(grammar)
            self.assertIs(type(told), list)
            self.assertEqual(told, plain_slr(grammar), grammar)

    def test_lalr(self):
        for grammar in grammars(132, 250):
            told = lalr_lots(grammar)
            self.assertIs(type(told), list)
            self.assertEqual(told, plain_lalr(grammar), grammar)

    def test_lalr_within_slr(self):
        unlike = 0
        for grammar in grammars(133, 100):
            for one, other in zip(lalr_lots(grammar), slr_lots(grammar)):
                self.assertEqual([rule for rule, _ in one], [rule for rule, _ in other])
                for (_, lot), (_, wider) in zip(one, other):
                    self.assertTrue(set(lot) <= set(wider))
                    unlike += lot != wider
        self.assertGreater(unlike, 10)

    def test_lalr_by_left_contexts(self):
        same = 0
        for grammar in grammars(134, 40):
            states, ways = plain_automaton(grammar)
            found = [{} for _ in states]
            for row, state in contexts_up_to(ways, 4)[:300]:
                for rule, place, lot in valid_lots(grammar, row):
                    if behind_item(grammar, (rule, place)) == ():
                        found[state].setdefault(rule, set()).update(lot)
            for pairs, lots in zip(lalr_lots(grammar), found):
                for rule, lot in pairs:
                    self.assertTrue(lots.get(rule, set()) <= set(lot))
                    same += lots.get(rule, set()) == set(lot)
        self.assertGreater(same, 150)

    def test_kinds_of_grammars(self):
        for grammar, slr, lalr in ((G, 0, 0), (EG, 0, 0), (STARS, 1, 0), (APART, 1, 1), (THREE, 1, 1), (PLUS, 1, 1), (GG, 1, 1)):
            self.assertEqual(clashes(grammar, slr_lots(grammar)), bool(slr))
            self.assertEqual(clashes(grammar, lalr_lots(grammar)), bool(lalr))

    def test_by_hand(self):
        state = states_of(STARS).index(((0, 1), (4, 1)))
        self.assertEqual(slr_lots(STARS)[state], ((4, ("is", None)),))
        self.assertEqual(lalr_lots(STARS)[state], ((4, (None,)),))
        self.assertEqual(slr_lots(EG), [(), ((-1, (None,)),), (), ((1, (None,)),), ((0, (None,)),)])
        self.assertEqual(lalr_lots(EG), slr_lots(EG))
        state = states_of(APART).index(((4, 1), (5, 1)))
        self.assertEqual(lalr_lots(APART)[state], ((4, ("d", "e")), (5, ("d", "e"))))
        dead = (("a", "b"), "S", (("S", ("A", "B")), ("B", ("B",)), ("A", ("b",))))
        self.assertEqual(slr_lots(dead)[states_of(dead).index(((2, 1),))], ((2, ()),))
        self.assertEqual(lalr_lots(dead)[states_of(dead).index(((2, 1),))], ((2, ()),))

    def test_refused(self):
        for function in (slr_lots, lalr_lots):
            check_refusals(self, function, (FL,), (InvalidGrammar,), (nothing,))
            check_steady(self, function, [(FL,), (FC,), (F,)])

    def test_too_many(self):
        check_too_many(self, 400, slr_lots, flat(401))
        check_too_many(self, 400, lalr_lots, flat(401))
        self.assertIsNone(error_of(slr_lots, flat(400)))
        self.assertIsNone(error_of(lalr_lots, flat(400)))
        # More than 400 and more than 2,000: the first limit is told.
        check_too_many(self, 400, lalr_lots, fan(20, 320, 19))
        check_too_many(self, 2000, lalr_lots, fan(20, 318, 20))
        check_too_many(self, 2000, lalr_lots, fan(9, 219, 1))
        self.assertIsNone(error_of(slr_lots, fan(20, 318, 20)))
        self.assertIsNone(error_of(lalr_lots, fan(9, 219)))


if __name__ == "__main__":
    unittest.main()
