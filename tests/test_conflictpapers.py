import random
import unittest

from shiftroads.automata import least_context, valid_items
from shiftroads.builds import built
from shiftroads.canonicals import valid_lots
from shiftroads.conflictpapers import is_witness, paper_of, witness_along
from shiftroads.conflicts import conflicts
from shiftroads.errors import InvalidConflict, InvalidDeed, InvalidGrammar, InvalidMachine, InvalidNumber, InvalidSymbols
from shiftroads.errors import InvalidToken, Unproductive
from shiftroads.lookaheads import lalr_lots
from shiftroads.moments import moment_of
from shiftroads.trees import is_tree
from tests.makers import APART, C, EG, F, FC, FL, G, GG, LOST, PLUS, RINGS, SORTS, STARS, THREE, all_trees, behind_item, bent
from tests.makers import check_refusals, check_steady, check_too_many, contexts_up_to, error_of, frozen, is_symbol_row, junk
from tests.makers import letters_of, nothing, plain_moments, random_grammars, right_side, trees_by_height, walked
from tests.test_conflicts import ODD, PM, random_machine

EMPTIES = (("a",), "S", (("S", ("a", "A", "a")), ("A", ()), ("A", ("A", "A")), ("S", ("A", "S"))))
DANGLING = (
    ("cond", "do", "other", "then"),
    "S",
    (("S", ("cond", "then", "S")), ("S", ("cond", "then", "S", "other", "S")), ("S", ("do",))),
)


def is_productive(grammar):
    return len(trees_by_height(grammar, grammar[0])) == len(letters_of(grammar))


def grammars(seed, count):
    found = [G, F, EG, FL, FC, GG, RINGS, STARS, APART, THREE, PLUS, EMPTIES, DANGLING] + random_grammars(seed, count)
    return [grammar for grammar in found if is_productive(grammar)]


def all_deeds(grammar):
    return [("shift",), ("accept",)] + [("reduce", rule) for rule in range(len(grammar[2]))]


def is_there(grammar, context, token, deed):
    """By [27] and [30]: whether a deed is done for a token along a context, if all nonterminals derive terminals."""
    if deed == ("accept",):
        return context == (grammar[1],) and token is None
    if deed == ("shift",):
        return token is not None and any(behind_item(grammar, item) == (token,) for item in valid_items(grammar, context))
    whole = (deed[1], len(right_side(grammar, deed[1])))
    return any((rule, place) == whole and token in lot for rule, place, lot in valid_lots(grammar, context))


def is_plain_witness(grammar, ways, state, token, deed, value):
    """By the words of [38]."""
    if type(value) is not tuple or len(value) != 2 or not is_tree(grammar, grammar[1], value[0]) or type(value[1]) is not int:
        return False
    moments = plain_moments(grammar, value[0])
    if not 0 <= value[1] < len(moments):
        return False
    context, behind, done = moments[value[1]]
    return behind == token and done == deed and walked(ways, context) == state


def least_witnesses(grammar, most):
    """For each context, token and deed the least number of items of a tree with such a moment, up to a size."""
    found = {}
    for tree in sorted(all_trees(grammar, most)[grammar[1]], key=len):
        for moment in plain_moments(grammar, tree):
            found.setdefault(moment, len(tree))
    return found


def sized(total, empty):
    """A grammar whose start has a least tree (without leaves, if so told) of so many items."""
    rules = []
    waiting = [total]
    seen = {1}
    while waiting:
        size = waiting.pop(0)
        parts = [(size - 1 + at) // 8 for at in range(8)]
        parts = [part for part in parts if part]
        rules.append((f"N{size}", tuple(f"N{part}" if part > 1 or empty else "a" for part in parts)))
        if empty:
            rules.append((f"N{size}", ("a",)))
        for part in parts:
            if part not in seen:
                seen.add(part)
                waiting.append(part)
    if empty:
        rules.append(("N1", ()))
    return (("a", "b"), f"N{total}", tuple(rules))


class Along(unittest.TestCase):
    def test_least_ones(self):
        many = 0
        for grammar in grammars(191, 60):
            found = least_witnesses(grammar, 7)
            for context, token, deed in sorted(found, key=repr)[:60]:
                told = witness_along(grammar, context, token, deed)
                self.assertIsNotNone(told, (grammar, context, token, deed))
                self.assertTrue(is_tree(grammar, grammar[1], told[0]))
                self.assertEqual(plain_moments(grammar, told[0])[told[1]], (context, token, deed))
                self.assertEqual(len(told[0]), found[context, token, deed], (grammar, context, token, deed))
                many += 1
        self.assertGreater(many, 500)

    def test_there_or_not(self):
        rng = random.Random(192)
        seen = {True: 0, False: 0}
        for grammar in grammars(193, 40):
            machine = built(grammar, "lr1")
            symbols = list(grammar[0]) + letters_of(grammar)
            rows = [row for row, _ in contexts_up_to(machine[1], 4)]
            rng.shuffle(rows)
            rows = rows[:5] + [(), (grammar[1],)] + [tuple(rng.choice(symbols) for _ in range(rng.randint(1, 3))) for _ in range(2)]
            for context in rows:
                for token in grammar[0] + (None,):
                    for deed in all_deeds(grammar):
                        right = is_there(grammar, context, token, deed)
                        told = witness_along(grammar, context, token, deed)
                        seen[right] += 1
                        self.assertEqual(told is not None, right, (grammar, context, token, deed))
                        if right:
                            self.assertTrue(is_tree(grammar, grammar[1], told[0]))
                            self.assertEqual(plain_moments(grammar, told[0])[told[1]], (context, token, deed))
        self.assertGreater(min(seen.values()), 300)

    def test_by_hand(self):
        self.assertEqual(witness_along(EG, ("b", "c"), None, ("reduce", 1)), ((0, "b", 1, "c"), 2))
        self.assertIsNone(witness_along(EG, ("b", "c"), "b", ("reduce", 1)))
        self.assertIsNone(witness_along(EG, ("b", "c"), None, ("reduce", 0)))
        self.assertIsNone(witness_along(EG, ("c", "b"), "c", ("shift",)))
        self.assertEqual(witness_along(EG, ("S",), None, ("accept",)), ((1, "c"), 2))
        self.assertIsNone(witness_along(EG, ("S",), "b", ("accept",)))
        self.assertIsNone(witness_along(EG, (), None, ("accept",)))
        self.assertIsNone(witness_along(EG, ("b",), None, ("shift",)))
        self.assertEqual(witness_along(EG, ("b",), "c", ("shift",)), ((0, "b", 1, "c"), 1))
        self.assertIsNone(witness_along(APART, ("a", "c"), "d", ("reduce", 5)))
        self.assertEqual(witness_along(APART, ("a", "c"), "d", ("reduce", 4)), ((0, "a", 4, "c", "d"), 2))

    def test_least_rests(self):
        # E is empty by seven items, or begins with a by three: what is behind D begins with E.
        grammar = (
            ("a", "b", "d"), "S",
            (("S", ("D", "E", "A")), ("D", ("d",)), ("E", ("Z",) * 6), ("Z", ()), ("E", ("a", "b")), ("A", ("a",))),
        )
        told = witness_along(grammar, ("d",), "a", ("reduce", 1))
        self.assertEqual(told, ((0, 1, "d", 4, "a", "b", 5, "a"), 1))
        # It is empty by three items, or begins with a by six; A is least with b ahead.
        grammar = (
            ("a", "b", "d"), "S",
            (
                ("S", ("D", "E", "A")), ("D", ("d",)), ("E", ("Z",) * 2), ("Z", ()), ("E", ("a",) * 5), ("A", ("a",) * 4),
                ("A", ("b",) * 3),
            ),
        )
        told = witness_along(grammar, ("d",), "a", ("reduce", 1))
        self.assertEqual(told, ((0, 1, "d", 2, 3, 3, 5, "a", "a", "a", "a"), 1))
        # The later rules have lesser trees.
        grammar = (("a", "d"), "S", (("S", ("D", "A")), ("D", ("d",)), ("A", ("a",) * 5), ("A", ("B",)), ("B", ("a", "a")), ("B", ("a",))))
        self.assertEqual(witness_along(grammar, ("d",), "a", ("reduce", 1)), ((0, 1, "d", 3, 5, "a"), 1))

    def test_long_contexts(self):
        context = ("b",) * 400
        tree, number = witness_along(EG, context, "c", ("shift",))
        self.assertEqual((tree, number), ((0, "b") * 400 + (1, "c"), 400))
        left = (("a", "b"), "S", (("S", ("S", "a")), ("S", ())))
        for token in ("a", None):
            tree, number = witness_along(left, ("S", "a"), token, ("reduce", 0))
            self.assertEqual(plain_moments(left, tree)[number], (("S", "a"), token, ("reduce", 0)))
        self.assertIsNone(witness_along(left, ("S",) * 400, "a", ("shift",)))


class Judging(unittest.TestCase):
    def test_all_moments(self):
        rng = random.Random(194)
        seen = {True: 0, False: 0}
        for grammar in grammars(195, 25):
            for machine in (built(grammar, rng.choice(SORTS)), random_machine(rng, grammar)):
                trees = sorted(all_trees(grammar, 6)[grammar[1]], key=repr)
                for tree in rng.sample(trees, min(6, len(trees))):
                    for number, (context, token, deed) in enumerate(plain_moments(grammar, tree)):
                        home = walked(machine[1], context)
                        for state in range(len(machine[0])):
                            told = is_witness(grammar, machine, state, token, deed, (tree, number))
                            self.assertIs(told, state == home)
                            seen[told] += 1
                        if home is not None:
                            for other in grammar[0] + (None,):
                                told = is_witness(grammar, machine, home, other, deed, (tree, number))
                                self.assertIs(told, other == token)
                            for other in all_deeds(grammar):
                                told = is_witness(grammar, machine, home, token, other, (tree, number))
                                self.assertIs(told, other == deed)
        self.assertGreater(min(seen.values()), 100)

    def test_bent(self):
        for grammar, machine in ((GG, built(GG, "lalr")), (EG, built(EG, "slr"))):
            for tree in sorted(all_trees(grammar, 5)[grammar[1]], key=repr)[:4]:
                for number, (context, token, deed) in enumerate(plain_moments(grammar, tree)):
                    state = walked(machine[1], context)
                    for value in bent((tree, number)):
                        right = is_plain_witness(grammar, machine[1], state, token, deed, value)
                        self.assertIs(is_witness(grammar, machine, state, token, deed, value), right, value)

    def test_any_values(self):
        for value in junk() + [((1, "c"), True), ((1, "c"), -1), ((1, "c"), 3), ((1, "c"), None), ((0, "b", "S"), 0)]:
            self.assertIs(is_witness(EG, built(EG, "slr"), 1, None, ("accept",), value), False)
        self.assertIs(is_witness(EG, built(EG, "slr"), 1, None, ("accept",), ((1, "c"), 2)), True)
        long_tree = ((0, "b") * 9999 + (1, "c"), 20000)
        self.assertIs(is_witness(EG, built(EG, "slr"), 1, None, ("accept",), long_tree), True)
        long_tree = ((0, "b") * 9999 + (1, "c"), 9999)
        self.assertIs(is_witness(EG, built(EG, "slr"), 2, "c", ("shift",), long_tree), True)

    def test_without_trees(self):
        # It judges also where a nonterminal derives no row of terminals.
        machine = built(LOST, "lr1")
        self.assertIs(is_witness(LOST, machine, walked(machine[1], ("S",)), None, ("accept",), ((4, "a"), 2)), True)


class Papers(unittest.TestCase):
    def judged(self, grammar, machine, conflict):
        """The paper of a conflict, each witness being judged."""
        before = frozen((grammar, machine, conflict))
        paper = paper_of(grammar, machine, conflict)
        self.assertIs(type(paper), tuple)
        state, token, deeds = conflict
        self.assertEqual(len(paper), len(deeds))
        for deed, value in zip(deeds, paper):
            if value is not None:
                self.assertTrue(is_plain_witness(grammar, machine[1], state, token, deed, value))
                self.assertTrue(is_witness(grammar, machine, state, token, deed, value))
        self.assertEqual(frozen((grammar, machine, conflict)), before)
        return paper

    def test_built_machines(self):
        seen = {True: 0, False: 0}
        for grammar in grammars(196, 60):
            for sort in SORTS:
                machine = built(grammar, sort)
                for conflict in conflicts(grammar, machine)[:12]:
                    paper = self.judged(grammar, machine, conflict)
                    state, token, deeds = conflict
                    for deed, value in zip(deeds, paper):
                        needed = True
                        if sort == "slr" and deed[0] == "reduce":
                            needed = token in dict(lalr_lots(grammar)[state])[deed[1]]
                        self.assertEqual(value is not None, needed, (grammar, sort, conflict, deed))
                        seen[needed] += 1
        self.assertGreater(seen[True], 300)
        self.assertGreater(seen[False], 10)

    def test_loose_machines(self):
        rng = random.Random(197)
        seen = {True: 0, False: 0}
        for grammar in grammars(198, 40) + [PLUS]:
            machine = random_machine(rng, grammar)
            if grammar == PLUS:
                machine = ODD
            trees = sorted(all_trees(grammar, 7)[grammar[1]], key=repr)
            trees = rng.sample(trees, min(60, len(trees)))
            moments = [(tree, moment) for tree in trees for moment in plain_moments(grammar, tree)]
            for conflict in conflicts(grammar, machine)[:6]:
                paper = self.judged(grammar, machine, conflict)
                for deed, value in zip(conflict[2], paper):
                    sizes = [
                        len(tree) for tree, (context, token, done) in moments
                        if token == conflict[1] and done == deed and walked(machine[1], context) == conflict[0]
                    ]
                    seen[value is None] += 1
                    if sizes:
                        self.assertIsNotNone(value)
                        self.assertLessEqual(len(value[0]), min(sizes))
        self.assertGreater(min(seen.values()), 20)

    def test_by_hand(self):
        machine = built(DANGLING, "lalr")
        (conflict,) = conflicts(DANGLING, machine)
        self.assertEqual(conflict[1:], ("other", (("reduce", 0), ("shift",))))
        paper = self.judged(DANGLING, machine, conflict)
        self.assertEqual([len(value[0]) for value in paper], [11, 8])
        slr = built(STARS, "slr")
        (conflict,) = conflicts(STARS, slr)
        self.assertEqual(conflict[1:], ("is", (("reduce", 4), ("shift",))))
        paper = self.judged(STARS, slr, conflict)
        self.assertIsNone(paper[0])
        self.assertIsNotNone(paper[1])
        lalr = built(APART, "lalr")
        for conflict in conflicts(APART, lalr):
            contexts = [plain_moments(APART, tree)[number][0] for tree, number in self.judged(APART, lalr, conflict)]
            self.assertNotEqual(contexts[0], contexts[1])

    def test_the_end(self):
        ends = (("a",), "S", (("S", ()), ("S", ("A",)), ("A", ()), ("A", ("a", "S"))))
        machine = built(ends, "lr1")
        found = [conflict for conflict in conflicts(ends, machine) if conflict[1] is None]
        self.assertTrue(found)
        for conflict in found:
            self.assertNotIn(None, self.judged(ends, machine, conflict))
        found = [conflict for conflict in conflicts(RINGS, built(RINGS, "lr1")) if ("accept",) in conflict[2]]
        self.assertTrue(found)
        for conflict in found:
            self.assertNotIn(None, self.judged(RINGS, built(RINGS, "lr1"), conflict))

    def test_same_contexts_as_states(self):
        for grammar in (PLUS, GG, DANGLING):
            machine = built(grammar, "slr")
            for state, token, deeds in conflicts(grammar, machine):
                for deed in deeds:
                    value = witness_along(grammar, least_context(grammar, state), token, deed)
                    if value is not None:
                        self.assertTrue(is_witness(grammar, machine, state, token, deed, value))


class Limits(unittest.TestCase):
    def test_unproductive(self):
        rng = random.Random(199)
        seen = 0
        for grammar in [LOST, C] + random_grammars(200, 100):
            names = sorted(set(letters_of(grammar)) - trees_by_height(grammar, grammar[0]))
            if not names:
                continue
            seen += 1
            told = error_of(witness_along, grammar, (), None, ("shift",))
            self.assertEqual((type(told), told.symbol), (Unproductive, names[0]))
            machine = random_machine(rng, grammar)
            for conflict in conflicts(grammar, machine)[:1]:
                told = error_of(paper_of, grammar, machine, conflict)
                self.assertEqual((type(told), told.symbol), (Unproductive, names[0]))
        self.assertGreater(seen, 15)
        unreached = (("a",), "S", (("S", ("a",)), ("D", ("D",)), ("B", ("D", "a"))))
        self.assertEqual(error_of(witness_along, unreached, (), "a", ("shift",)).symbol, "B")

    def test_too_many(self):
        for empty in (False, True):
            grammar = sized(20000, empty)
            told = witness_along(grammar, (grammar[1],), None, ("accept",))
            self.assertEqual(len(told[0]), 2 if empty else 20000)
            check_too_many(self, 20000, witness_along, sized(20001, empty), (), None, ("accept",))
        # A nonterminal that is not reached counts, too.
        grammar = (("a", "b"), "S", (("S", ("a",)),) + sized(20001, False)[2])
        check_too_many(self, 20000, witness_along, grammar, (), None, ("accept",))

    def test_too_many_of_papers(self):
        rules = (("S", ("a",)), ("S", ("b",))) + sized(20001, False)[2]
        grammar = (("a", "b"), "S", rules)
        machine = ((((0, 1), (1, 1)),), ((),), (((0, (None,)), (1, (None,))),))
        conflict = (0, None, (("reduce", 0), ("reduce", 1)))
        self.assertEqual(conflicts(grammar, machine), (conflict,))
        check_too_many(self, 20000, paper_of, grammar, machine, conflict)
        self.assertIs(type(error_of(paper_of, grammar, machine, conflict[:2])), InvalidConflict)
        dead = (("a", "b"), "S", rules + (("Z", ("Z",)),))
        self.assertEqual(error_of(paper_of, dead, machine, conflict).symbol, "Z")
        self.assertEqual(error_of(witness_along, dead, (), None, ("accept",)).symbol, "Z")
        self.assertIs(type(error_of(witness_along, dead, (), None, ("accept", 1))), InvalidDeed)

    def test_greatest_witnesses(self):
        # The least tree of A has 9,999 items: two of them fit, three do not.
        inner = sized(9998, False)
        grammar = (("a", "b"), "S", (("S", ("A", "S")), ("S", ("b",)), ("A", (inner[1],))) + inner[2])
        told = witness_along(grammar, ("A",), "b", ("shift",))
        self.assertEqual((len(told[0]), told[1]), (1 + 9999 + 2, 9999))
        self.assertEqual(moment_of(grammar, *told), (("A",), "b", ("shift",)))
        for inner, deed in ((sized(19996, False), ("shift",)), (sized(19995, False), ("reduce", 2))):
            rules = (("S", ("A", "S")), ("S", ("b",)), ("A", (inner[1],))) + inner[2]
            grammar = (("a", "b"), "S", rules)
            context = ("A",) if deed == ("shift",) else (inner[1],)
            told = witness_along(grammar, context, "b", deed)
            self.assertEqual(len(told[0]), 20000 if deed == ("shift",) else 19999)
            self.assertEqual(moment_of(grammar, *told), (context, "b", deed))
        # What is told for greater ones is not promised; it is no wrong answer, at any rate.
        check_too_many(self, 20000, witness_along, grammar, ("A",), "a", ("shift",))


class Refusals(unittest.TestCase):
    def test_kinds(self):
        token = lambda value: value is None or type(value) is str and value in GG[0]
        machine = built(GG, "lalr")
        conflict = conflicts(GG, machine)[0]
        state = lambda value: type(value) is int and 0 <= value < len(machine[0])
        errors = (InvalidGrammar, InvalidSymbols, InvalidToken, InvalidDeed)
        fine = (nothing, is_symbol_row(GG), token, nothing)
        check_refusals(self, witness_along, (GG, ("v",), "v", ("shift",)), errors, fine)
        errors = (InvalidGrammar, InvalidMachine, InvalidNumber, InvalidToken, InvalidDeed, None)
        fine = (nothing, nothing, state, token, nothing, nothing)
        check_refusals(self, is_witness, (GG, machine, 0, "v", ("shift",), None), errors, fine)
        check_refusals(self, paper_of, (GG, machine, conflict), (InvalidGrammar, InvalidMachine, InvalidConflict), (nothing,) * 3)

    def test_deeds(self):
        for deed in (
            ("reduce", 3), ("reduce", -1), ("reduce", True), ("reduce", None), ("reduce",), ("shift", 1), ("accept", 0), ("refuse",),
            ["shift"], "shift", ("Shift",), ("shift", "shift"), (), ("reduce", 0, 0),
        ):
            self.assertIs(type(error_of(witness_along, GG, (), "v", deed)), InvalidDeed, deed)
            self.assertIs(type(error_of(is_witness, GG, built(GG, "slr"), 0, "v", deed, None)), InvalidDeed)
        for deed in (("shift",), ("accept",), ("reduce", 0), ("reduce", 2)):
            self.assertIsNone(error_of(witness_along, GG, (), "v", deed))

    def test_conflicts(self):
        for grammar, machine in ((PLUS, PM), (PLUS, ODD), (GG, built(GG, "lalr"))):
            told = conflicts(grammar, machine)
            for conflict in told:
                for value in bent(conflict):
                    right = value in told and not any(type(part) is bool for part in (value[0],) + tuple(
                        item for deed in value[2] for item in deed))
                    error = error_of(paper_of, grammar, machine, value)
                    self.assertIs(type(error), type(None) if right else InvalidConflict, value)
        for value in ((0, "left", (("reduce", 1),)), (1, "num", ()), (0, "num", (("accept",), ("reduce", 0)))):
            self.assertIs(type(error_of(paper_of, PLUS, ODD, value)), InvalidConflict)

    def test_steady(self):
        machine = built(GG, "lalr")
        check_steady(self, witness_along, [(GG, ("v", "D"), "v", ("shift",)), (EG, (), "b", ("shift",)), (GG, (), None, ("accept",))])
        check_steady(self, is_witness, [(GG, machine, 0, "v", ("shift",), ((2, "u"), 0)), (GG, machine, 0, "u", ("shift",), ((2, "u"), 0))])
        check_steady(self, paper_of, [(GG, machine, conflicts(GG, machine)[0]), (PLUS, PM, conflicts(PLUS, PM)[1])])


if __name__ == "__main__":
    unittest.main()
