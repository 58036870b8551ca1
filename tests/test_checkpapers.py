import unittest

from shiftroads.checkpapers import judge_paper, ladder_tree, opposite, paper_for
from shiftroads.checks import left_corners, productive, reached, ringed
from shiftroads.errors import InvalidClaim, InvalidGrammar, InvalidLadder, InvalidSymbols, TooMany
from shiftroads.firsts import empty_nonterminals
from shiftroads.trees import is_tree
from tests.makers import C, F, G, bent, chain_grammars, check_refusals, error_of, frozen, junk, letters_of, nested
from tests.makers import nothing, random_grammars

RINGS = (("a",), "S", (("S", ("S", "S")), ("S", ("A",)), ("A", ("S",)), ("A", ()), ("S", ("a",)), ("B", ("B", "a"))))
PAIRS = [("productive", "barren"), ("empty", "filled"), ("reached", "apart"), ("ring", "free"), ("corner", "clear")]


def symbols_of(grammar):
    return letters_of(grammar) + list(grammar[0])


def claims_of(grammar):
    found = []
    for one, other in PAIRS:
        for name in symbols_of(grammar) if one == "reached" else letters_of(grammar):
            behind = [(symbol,) for symbol in symbols_of(grammar)] if one == "corner" else [()]
            found += [(word, name) + more for word in (one, other) for more in behind]
    return found


def holds(grammar, claim):
    """Whether a claim holds, by the questions."""
    word = claim[0]
    for one, other in PAIRS:
        if word == other:
            return not holds(grammar, (one,) + claim[1:])
    if word == "corner":
        return claim[2] in left_corners(grammar, claim[1])
    told = {"productive": productive, "empty": empty_nonterminals, "reached": reached, "ring": ringed}[word](grammar)
    return claim[1] in told


# A second judge, as near to the words of the document as can be.

def is_rule(grammar, value):
    return type(value) is int and 0 <= value < len(grammar[2])


def is_plain_ladder(grammar, value, bare=False):
    if type(value) is not tuple or not all(is_rule(grammar, rule) for rule in value):
        return False
    for at, rule in enumerate(value):
        right = grammar[2][rule][1]
        ahead = [grammar[2][other][0] for other in value[:at]]
        if not all(symbol in ahead for symbol in right if symbol not in grammar[0]):
            return False
        if bare and any(symbol in grammar[0] for symbol in right):
            return False
    return True


def shows(grammar, ladder):
    return {grammar[2][rule][0] for rule in ladder}


def is_plain_lot(grammar, value):
    if type(value) is not tuple or not all(type(name) is str and name in symbols_of(grammar) for name in value):
        return False
    return list(value) == sorted(set(value))


def is_plain_barren(grammar, lot):
    if not is_plain_lot(grammar, lot) or any(name in grammar[0] for name in lot):
        return False
    return all(set(right) & set(lot) for left, right in grammar[2] if left in lot)


def is_plain_filled(grammar, lot):
    if not is_plain_lot(grammar, lot) or any(name in grammar[0] for name in lot):
        return False
    return all(set(right) & (set(lot) | set(grammar[0])) for left, right in grammar[2] if left in lot)


def is_plain_way(grammar, value, begin, end):
    if type(value) is not tuple:
        return False
    for step in value:
        if type(step) is not tuple or len(step) != 2 or not is_rule(grammar, step[0]) or type(step[1]) is not int:
            return False
        left, right = grammar[2][step[0]]
        if left != begin or not 0 <= step[1] < len(right):
            return False
        begin = right[step[1]]
    return begin == end


def plain_judge(grammar, claim, paper):
    word, name, last = claim[0], claim[1], claim[-1]
    if word in ("productive", "empty"):
        return is_plain_ladder(grammar, paper, word == "empty") and name in shows(grammar, paper)
    if word == "barren":
        return is_plain_barren(grammar, paper) and name in paper
    if word == "filled":
        return is_plain_filled(grammar, paper) and name in paper
    if word == "reached":
        return is_plain_way(grammar, paper, grammar[1], name)
    if word == "apart":
        if not is_plain_lot(grammar, paper) or grammar[1] not in paper or name in paper:
            return False
        return all(set(right) <= set(paper) for left, right in grammar[2] if left in paper)
    if type(paper) is not tuple or len(paper) != 2:
        return False
    one, other = paper
    if word in ("ring", "corner"):
        if not is_plain_ladder(grammar, one, True) or not is_plain_way(grammar, other, name, last) or other == ():
            return False
        for rule, place in other:
            right = grammar[2][rule][1]
            beside = right[:place] + (right[place + 1:] if word == "ring" else ())
            if not set(beside) <= shows(grammar, one):
                return False
        return True
    if not is_plain_filled(grammar, one) or not is_plain_lot(grammar, other) or last in other:
        return False
    perhaps = set(letters_of(grammar)) - set(one)
    for left, right in grammar[2]:
        if left == name or left in other:
            for place, symbol in enumerate(right):
                beside = right[:place] + (right[place + 1:] if word == "free" else ())
                counts = word == "clear" or symbol not in grammar[0]
                if set(beside) <= perhaps and counts and symbol not in other:
                    return False
    return True


def is_within_bounds(grammar, claim, paper):
    def ladder(value):
        return len(value) <= 40

    def steps(value):
        return len(value) <= 80

    parts = {
        "productive": (ladder,), "empty": (ladder,), "ring": (ladder, steps), "corner": (ladder, steps),
    }.get(claim[0], (steps, steps))
    values = paper if claim[0] in ("ring", "corner", "free", "clear") else (paper,)
    return all(part(value) for part, value in zip(parts, values))


class Papers(unittest.TestCase):
    def test_one_of_two(self):
        for grammar in [G, F, C, RINGS] + random_grammars(61, 120):
            for claim in claims_of(grammar):
                paper, against = paper_for(grammar, claim), paper_for(grammar, opposite(grammar, claim))
                self.assertEqual((paper is None, against is None), (not holds(grammar, claim), holds(grammar, claim)))
                if paper is not None:
                    self.assertIs(judge_paper(grammar, claim, paper), True)
                    self.assertTrue(plain_judge(grammar, claim, paper))
                    self.assertFalse(judge_paper(grammar, opposite(grammar, claim), paper))
                    self.assertTrue(is_within_bounds(grammar, claim, paper))

    def test_chains(self):
        for grammar in chain_grammars():
            for claim in claims_of(grammar)[::13]:
                paper = paper_for(grammar, claim)
                self.assertEqual(paper is not None, holds(grammar, claim))
                if paper is not None:
                    self.assertTrue(is_within_bounds(grammar, claim, paper))
                    self.assertTrue(plain_judge(grammar, claim, paper))

    def test_wrong_in_one_place(self):
        wrong = {}
        for grammar in [F, C, RINGS] + random_grammars(62, 12):
            for claim in claims_of(grammar):
                paper = paper_for(grammar, claim)
                for value in [] if paper is None else bent(paper):
                    told = plain_judge(grammar, claim, value)
                    self.assertIs(judge_paper(grammar, claim, value), told, (grammar, claim, value))
                    wrong[claim[0]] = wrong.get(claim[0], 0) + (not told)
        self.assertEqual(set(wrong), {word for pair in PAIRS for word in pair})
        self.assertGreater(min(wrong.values()), 50)

    def test_papers_of_other_claims(self):
        for grammar in [F, C, RINGS] + random_grammars(63, 10):
            papers = [paper_for(grammar, claim) for claim in claims_of(grammar)] + [(), ((), ()), ((0,), ()), ((), (0,))]
            for claim in claims_of(grammar):
                for paper in papers:
                    self.assertIs(judge_paper(grammar, claim, paper), plain_judge(grammar, claim, paper))

    def test_ladders(self):
        self.assertTrue(judge_paper(C, ("productive", "S"), (1,)))
        self.assertTrue(judge_paper(C, ("productive", "S"), (1, 1, 2, 2, 0)))
        self.assertFalse(judge_paper(C, ("productive", "S"), (True,)))
        self.assertFalse(judge_paper(C, ("productive", "S"), [1]))
        self.assertFalse(judge_paper(C, ("productive", "S"), (6,)))
        self.assertFalse(judge_paper(C, ("productive", "S"), (-5,)))
        self.assertFalse(judge_paper(C, ("productive", "S"), ()))
        self.assertFalse(judge_paper(C, ("productive", "S"), (0, 1, 2)))
        self.assertFalse(judge_paper(C, ("productive", "S"), (2,)))
        self.assertTrue(judge_paper(C, ("productive", "S"), (1,) * 20000))
        self.assertTrue(judge_paper(C, ("empty", "A"), (2,)))
        self.assertFalse(judge_paper(C, ("empty", "A"), (1, 2)))
        self.assertFalse(judge_paper(C, ("empty", "S"), (1,)))

    def test_lots(self):
        self.assertTrue(judge_paper(C, ("barren", "B"), ("B",)))
        self.assertFalse(judge_paper(C, ("barren", "B"), ()))
        self.assertFalse(judge_paper(C, ("barren", "B"), ["B"]))
        self.assertFalse(judge_paper(C, ("barren", "B"), ("B", "B")))
        self.assertFalse(judge_paper(C, ("barren", "B"), ("B", "a")))
        self.assertFalse(judge_paper(C, ("barren", "S"), ("B", "S")))
        self.assertTrue(judge_paper(C, ("filled", "D"), ("D",)))
        self.assertTrue(judge_paper(C, ("filled", "D"), ("B", "D")))
        self.assertFalse(judge_paper(C, ("filled", "S"), ("S",)))
        self.assertTrue(judge_paper(C, ("filled", "S"), ("B", "S")))
        self.assertFalse(judge_paper(C, ("filled", "A"), ("A",)))
        self.assertFalse(judge_paper(C, ("apart", "D"), ("A", "B", "S", "a")))
        self.assertFalse(judge_paper(C, ("apart", "D"), ("A", "B", "D", "S", "a", "b")))
        self.assertFalse(judge_paper(C, ("apart", "D"), ()))

    def test_ways(self):
        self.assertTrue(judge_paper(C, ("reached", "S"), ()))
        self.assertTrue(judge_paper(C, ("reached", "S"), ((0, 1), (0, 1))))
        self.assertTrue(judge_paper(C, ("reached", "A"), ((4, 0), (3, 0))))
        self.assertFalse(judge_paper(C, ("reached", "A"), ()))
        self.assertFalse(judge_paper(C, ("reached", "A"), ((4, 0), (3, False))))
        self.assertFalse(judge_paper(C, ("reached", "A"), ((4, 0), [3, 0])))
        self.assertFalse(judge_paper(C, ("reached", "A"), ((4, 1), (3, 0))))
        self.assertFalse(judge_paper(C, ("reached", "A"), ((4, 0, 0), (3, 0))))
        self.assertFalse(judge_paper(C, ("reached", "a"), ((0, 2), (0, 2))))
        self.assertFalse(judge_paper(C, ("ring", "B"), ((2,), ())))
        self.assertFalse(judge_paper(C, ("ring", "B"), ((), ((3, 1),))))
        self.assertTrue(judge_paper(C, ("corner", "S", "S"), ((2,), ((0, 1),))))
        self.assertTrue(judge_paper(C, ("corner", "S", "A"), ((), ((0, 0),))))
        self.assertFalse(judge_paper(C, ("corner", "S", "S"), ((), ((0, 1),))))
        self.assertFalse(judge_paper(C, ("corner", "S", "a"), ((2,), ((0, 2),))))
        double = (("a",), "S", (("S", ("S", "S")), ("S", ("a",))))
        self.assertFalse(judge_paper(double, ("ring", "S"), ((), ((0, 0),))))

    def test_closed_lots(self):
        self.assertTrue(judge_paper(C, ("free", "S"), (("B", "D", "S"), ("B",))))
        self.assertFalse(judge_paper(C, ("free", "S"), (("B", "D", "S"), ())))
        self.assertTrue(judge_paper(C, ("clear", "A", "a"), (("B", "D", "S"), ())))
        self.assertTrue(judge_paper(C, ("clear", "D", "b"), ((), ("a",))))
        self.assertFalse(judge_paper(C, ("clear", "D", "b"), ((), ())))
        self.assertTrue(judge_paper(C, ("clear", "S", "a"), (("B", "D", "S"), ("A", "B", "S", "b"))))
        self.assertFalse(judge_paper(C, ("clear", "S", "a"), ((), ("A", "B", "S", "b"))))

    def test_any_values(self):
        for grammar in (C, RINGS):
            for claim in claims_of(grammar):
                for value in junk() + [(value, value) for value in junk()] + [((), nested(99)), (nested(99), ())]:
                    if len(repr(value)) < 5000:
                        self.assertIs(judge_paper(grammar, claim, value), plain_judge(grammar, claim, value))

    def test_same_again(self):
        before = frozen(C)
        first = [paper_for(C, claim) for claim in claims_of(C)]
        paper_for(G, ("ring", "S"))
        self.assertEqual(first, [paper_for(C, claim) for claim in claims_of(C)])
        self.assertEqual(frozen(C), before)


class Claims(unittest.TestCase):
    def test_opposite(self):
        for grammar in (C, RINGS):
            for claim in claims_of(grammar):
                told = opposite(grammar, claim)
                self.assertEqual(told[1:], claim[1:])
                self.assertTrue((claim[0], told[0]) in PAIRS or (told[0], claim[0]) in PAIRS)
                self.assertEqual(opposite(grammar, told), claim)

    def test_what_is_none(self):
        right = claims_of(C)
        wrong = 0
        for claim in right[::5]:
            for value in bent(claim):
                told = error_of(opposite, C, value)
                if type(value) is tuple and value in right and all(type(part) is str for part in value):
                    self.assertIsNone(told)
                else:
                    wrong += 1
                    for function, more in ((opposite, ()), (paper_for, ()), (judge_paper, (None,))):
                        self.assertIs(type(error_of(function, C, value, *more)), InvalidClaim, value)
        self.assertGreater(wrong, 300)
        for value in (
            ("productive", "a"), ("empty", "a"), ("ring", "a"), ("free", "b"), ("corner", "a", "S"), ("corner", "S"),
            ("clear", "S", "x"), ("reached", "x"), ("reached", "S", "S"), ("ring", "S", "S"), ("", "S"), ("S",),
        ):
            self.assertIs(type(error_of(opposite, C, value)), InvalidClaim, value)

    def test_refused(self):
        claim = ("productive", "S")
        errors = (InvalidGrammar, InvalidClaim)
        check_refusals(self, opposite, (G, claim), errors, (nothing, nothing))
        check_refusals(self, paper_for, (G, claim), errors, (nothing, nothing))
        check_refusals(self, judge_paper, (G, claim, None), errors + (None,), (nothing, nothing, None))


class LadderTrees(unittest.TestCase):
    def test_trees(self):
        for grammar in [G, F, C, RINGS] + random_grammars(64, 200):
            for name in productive(grammar):
                ladder = paper_for(grammar, ("productive", name))
                error = error_of(ladder_tree, grammar, ladder, name)
                if not isinstance(error, TooMany):
                    tree = ladder_tree(grammar, ladder, name)
                    self.assertTrue(is_tree(grammar, name, tree))
                    self.assertTrue({item for item in tree if type(item) is int} <= set(ladder))

    def test_first_rule(self):
        self.assertEqual(ladder_tree(C, (1, 2, 0), "S"), (1, "b"))
        self.assertEqual(ladder_tree(C, (2, 1, 0, 2), "A"), (2,))
        self.assertEqual(ladder_tree(F, (1, 3, 0, 2), "S"), (1,))
        self.assertEqual(ladder_tree(F, (1, 2, 3, 0), "A"), (2, "a"))
        self.assertEqual(ladder_tree((("a",), "S", (("S", ("A", "A")), ("A", ("a",)), ("A", ()))), (2, 1, 0), "S"), (0, 2, 2))

    def test_size(self):
        rights = [
            ("a",) * 7, ("N0",) * 8, ("N1",) * 8, ("N2",) * 3 + ("N1",) * 5, ("N3", "N1") + ("N0",) * 5,
            ("N4",) + ("a",) * 4, ("N4",) + ("a",) * 5, ("N6",) * 8,
        ]
        sizes = [8, 65, 521, 1889, 1995, 2000, 2001, 16009]
        grammar = (("a",), "N0", tuple((f"N{at}", right) for at, right in enumerate(rights)))
        ladder = tuple(range(8))
        for at, size in enumerate(sizes):
            name = f"N{at}"
            if size > 2000:
                error = error_of(ladder_tree, grammar, ladder, name)
                self.assertIs(type(error), TooMany)
                self.assertEqual(error.limit, 2000)
            else:
                tree = ladder_tree(grammar, ladder, name)
                self.assertEqual(len(tree), size)
                self.assertTrue(is_tree(grammar, name, tree))

    def test_very_great(self):
        rules = [(f"N{at}", (f"N{at + 1}",) * 8) for at in range(39)] + [("N39", ("a",))]
        grammar = (("a",), "N0", tuple(rules))
        self.assertIs(type(error_of(ladder_tree, grammar, tuple(range(39, -1, -1)), "N0")), TooMany)

    def test_refused(self):
        def is_ladder(value):
            return is_plain_ladder(G, value)

        fine = (nothing, is_ladder, lambda value: type(value) is str and value in ("S", "N"))
        errors = (InvalidGrammar, InvalidLadder, InvalidSymbols)
        check_refusals(self, ladder_tree, (G, (2, 1), "S"), errors, fine)
        self.assertIs(type(error_of(ladder_tree, G, (2,), "S")), InvalidLadder)
        self.assertIs(type(error_of(ladder_tree, G, (2,), "num")), InvalidSymbols)
        self.assertIs(type(error_of(ladder_tree, G, (1, 2), "X")), InvalidLadder)
        self.assertIs(type(error_of(ladder_tree, G, (), "S")), InvalidLadder)
        self.assertIs(type(error_of(ladder_tree, G, (2, True), "S")), InvalidLadder)
        self.assertIs(type(error_of(ladder_tree, G, [2, 1], "S")), InvalidLadder)


if __name__ == "__main__":
    unittest.main()
