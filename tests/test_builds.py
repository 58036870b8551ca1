import unittest

from shiftroads.automata import states_of, ways_of
from shiftroads.builds import built, built_joined
from shiftroads.canonicals import canonical_states
from shiftroads.conflicts import conflicts
from shiftroads.errors import InvalidGrammar, InvalidJoining, InvalidWord, TooMany
from shiftroads.joinings import far_joining, full_joining, is_joining
from shiftroads.lookaheads import lalr_lots, slr_lots
from tests.makers import APART, C, EG, F, FC, FL, G, GG, LOST, PLUS, RINGS, SORTS, STARS, THREE, bent, check_refusals
from tests.makers import check_steady, check_too_many, error_of, fan, flat, junk, nothing, plain_automaton, plain_canonical
from tests.makers import plain_core, plain_lot, random_grammars, whole_of
from tests.test_lookaheads import plain_lalr, plain_slr


def grammars(seed, count):
    return [EG, G, F, C, FL, FC, GG, RINGS, LOST, STARS, APART, THREE, PLUS] + random_grammars(seed, count)


def plain_joined(grammar, classes):
    """By the words of [32] and [33]: the automaton of the classes of a joining."""
    states, ways = plain_canonical(grammar)
    told = []
    for row in classes:
        core = plain_core(states[row[0]])
        leads = tuple((symbol, [at for at, other in enumerate(classes) if target in other][0]) for symbol, target in ways[row[0]])
        looks = []
        for item in whole_of(grammar, core):
            tokens = {token for number in row for rule, place, token in states[number] if (rule, place) == item}
            looks.append((item[0], plain_lot(tokens)))
        told.append((core, leads, tuple(looks)))
    return tuple(zip(*told))


class Built(unittest.TestCase):
    def test_slr_and_lalr(self):
        for grammar in grammars(151, 120):
            states, ways = plain_automaton(grammar)
            self.assertEqual(built(grammar, "slr"), (tuple(states), tuple(ways), tuple(plain_slr(grammar))))
            self.assertEqual(built(grammar, "lalr"), (tuple(states), tuple(ways), tuple(plain_lalr(grammar))))

    def test_canonical(self):
        for grammar in grammars(152, 120):
            singles = tuple((number,) for number in range(len(plain_canonical(grammar)[0])))
            self.assertEqual(built(grammar, "lr1"), plain_joined(grammar, singles))
            self.assertEqual(built_joined(grammar, singles), built(grammar, "lr1"))

    def test_joined(self):
        for grammar in grammars(153, 80):
            for classes in (full_joining(grammar), far_joining(grammar)):
                if is_joining(grammar, classes):
                    self.assertEqual(built_joined(grammar, classes), plain_joined(grammar, classes))
                else:
                    self.assertIs(type(error_of(built_joined, grammar, classes)), InvalidJoining)

    def test_far(self):
        for grammar in grammars(154, 80):
            told = built(grammar, "joined")
            states, ways = plain_canonical(grammar)
            # The classes are found again: each canonical state is in the one to which the same symbols lead.
            homes = {0: 0}
            for number, row in enumerate(ways):
                for symbol, target in row:
                    home = dict(told[1][homes[number]])[symbol]
                    self.assertEqual(homes.setdefault(target, home), home)
            classes = tuple(tuple(n for n in sorted(homes) if homes[n] == at) for at in range(len(told[0])))
            self.assertTrue(is_joining(grammar, classes))
            self.assertEqual(built_joined(grammar, classes), told)
            if is_joining(grammar, full_joining(grammar)):
                self.assertEqual(classes, full_joining(grammar))

    def test_conflicts_of_sorts(self):
        for grammar, clean in (
            (G, SORTS), (EG, SORTS), (STARS, ("lalr", "lr1", "joined")), (APART, ("lr1", "joined")),
            (THREE, ("lr1", "joined")), (FC, ("lr1", "joined")), (PLUS, ()), (GG, ()),
        ):
            for sort in SORTS:
                self.assertEqual(conflicts(grammar, built(grammar, sort)) == (), sort in clean, (grammar, sort))

    def test_by_hand(self):
        self.assertEqual(built(EG, "slr")[2], ((), ((-1, (None,)),), (), ((1, (None,)),), ((0, (None,)),)))
        self.assertEqual(built(EG, "slr"), built(EG, "lr1"))
        self.assertEqual(len(built(THREE, "joined")[0]), len(canonical_states(THREE)) - 1)
        self.assertEqual(built(STARS, "lalr"), (states_of(STARS), ways_of(STARS), tuple(lalr_lots(STARS))))
        self.assertEqual(built(STARS, "slr"), (states_of(STARS), ways_of(STARS), tuple(slr_lots(STARS))))


class Refusals(unittest.TestCase):
    def test_sorts(self):
        check_refusals(self, built, (FL, "lr1"), (InvalidGrammar, InvalidWord), (nothing, nothing))
        for word in ("SLR", "slr ", "", "lr0", ("slr",), ["lr1"], None, True, 0):
            self.assertIs(type(error_of(built, FL, word)), InvalidWord)
        check_steady(self, built, [(grammar, sort) for grammar in (FL, FC, THREE) for sort in SORTS])

    def test_joinings(self):
        check_refusals(self, built_joined, (FL, full_joining(FL)), (InvalidGrammar, InvalidJoining), (nothing, nothing))
        for value in bent(full_joining(EG)) + junk():
            told = error_of(built_joined, EG, value)
            self.assertIs(type(told), type(None) if is_joining(EG, value) else InvalidJoining)
        self.assertIs(type(error_of(built_joined, FC, full_joining(FC))), InvalidJoining)
        check_steady(self, built_joined, [(grammar, far_joining(grammar)) for grammar in (FL, FC, THREE)])

    def test_too_many(self):
        check_too_many(self, 400, built, flat(401), "slr")
        check_too_many(self, 400, built, flat(401), "lalr")
        check_too_many(self, 400, built, fan(20, 320, 19), "slr")
        check_too_many(self, 400, built, fan(20, 320, 19), "lalr")
        check_too_many(self, 2000, built, fan(20, 320, 19), "lr1")
        check_too_many(self, 2000, built, fan(9, 219, 1), "lalr")
        check_too_many(self, 2000, built, fan(9, 219, 1), "lr1")
        check_too_many(self, 2000, built, fan(9, 219, 1), "joined")
        check_too_many(self, 2000, built_joined, fan(9, 219, 1), None)
        check_too_many(self, 200, built, fan(9, 19, 1), "joined")
        check_too_many(self, 200, built, fan(9, 219), "joined")
        self.assertIs(type(error_of(built, fan(9, 219, 1), "lr2")), InvalidWord)
        self.assertNotIsInstance(error_of(built, flat(401), "lr1"), TooMany)

    def test_limits_are_reached(self):
        for grammar, sort, count in (
            (flat(400), "slr", 400), (flat(400), "lalr", 400), (fan(9, 219), "lr1", 2000), (fan(9, 219), "lalr", 248),
            (flat(602), "lr1", 602), (fan(9, 219, 1), "slr", 249), (flat(200), "joined", 200), (fan(9, 19), "joined", 48),
        ):
            told = built(grammar, sort)
            self.assertEqual([len(part) for part in told], [count] * 3)
        self.assertEqual(built_joined(fan(9, 219), full_joining(fan(9, 219))), built(fan(9, 219), "lalr"))


if __name__ == "__main__":
    unittest.main()
