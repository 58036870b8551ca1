import random
import unittest

from shiftroads.edits import Edited
from shiftroads.errors import InvalidGrammar, InvalidNumber, InvalidRow, InvalidTable
from shiftroads.parsers import parse
from tests.makers import BARE, F, G, GG, HG, HT, J, LISTS, MIRROR, PLUS, RINGS, STARS, any_tables, built_tables, check_refusals
from tests.makers import error_of, frozen, junk, nothing, plain_parse, rows_for, table_by


class Piece:
    """A piece of a run: [64]."""

    def __init__(self, begin, end, base, deeds, tree, rule, inner, change=0):
        self.begin, self.end, self.base, self.deeds, self.tree, self.rule = begin, end, base, deeds, tree, rule
        # The places of the inner ones change by this, too.
        self.inner, self.change = inner, change

    def all_inside(self):
        return [self] + [other for piece in self.inner for other in piece.shifted(self.change).all_inside()]

    def shifted(self, change):
        ends = (self.begin + change, self.end + change)
        return Piece(*ends, self.base, self.deeds, self.tree, self.rule, self.inner, self.change + change)


def plain_run(grammar, table, row, kept):
    """By the words of [66]: the word and the place at the end, the tree, all pieces, the work, and what was taken over."""
    states, trees, place, done, work = [0], [], 0, 0, 0
    pieces, taken = [], []
    kept_at = {}
    for one in kept:
        kept_at.setdefault(one.begin, []).append(one)
    while True:
        fine = [one for one in kept_at.get(place, []) if one.base == states[-1] and done + one.deeds <= 5000]
        if fine:
            piece = max(fine, key=lambda one: (one.end, one.deeds))
            trees.append((piece.tree, place, [piece]))
            states.append(dict(table[1][states[-1]])[grammar[2][piece.rule][0]])
            place, done = piece.end, done + piece.deeds
            taken.append((piece.begin, piece.end, piece.deeds))
            pieces += piece.all_inside()
            continue
        token = row[place] if place < len(row) else None
        deed = dict(table[0][states[-1]]).get(token, ("refuse",))
        if deed[0] == "refuse" or deed[0] == "accept" and not trees:
            return "refused", place, None, pieces, work, taken
        if deed[0] == "reduce":
            left, right = grammar[2][deed[1]]
            at = len(trees) - len(right)
            if at < 0 or left not in dict(table[1][states[at]]):
                return "refused", place, None, pieces, work, taken
        if done == 5000:
            return "long", place, None, pieces, work, taken
        done, work = done + 1, work + 1
        if deed[0] == "accept":
            return "tree", place, trees[-1][0], pieces, work, taken
        if deed[0] == "shift":
            trees.append(((token,), place, []))
            states.append(deed[1])
            place += 1
            continue
        parts = trees[at:]
        tree = (deed[1],) + tuple(item for part in parts for item in part[0])
        begin = parts[0][1] if parts else place
        del trees[at:], states[at + 1:]
        piece = Piece(begin, place, states[-1], len(tree), tree, deed[1], [one for part in parts for one in part[2]])
        trees.append((tree, begin, [piece]))
        pieces.append(piece)
        states.append(dict(table[1][states[-1]])[left])


def kept_by(pieces, begin, end, change):
    """By the words of [65]: the pieces that an edit keeps, shifted."""
    found = []
    for one in pieces:
        if one.end > one.begin:
            if one.end < begin:
                found.append(one)
            elif one.begin >= end:
                found.append(one.shifted(change))
    return found


class Plain:
    """A row that is edited, by the plain run."""

    def __init__(self, grammar, table, row):
        self.grammar, self.table, self.row = grammar, table, row
        self.told = plain_run(grammar, table, row, [])

    def replace(self, begin, end, tokens):
        kept = kept_by(self.told[3], begin, end, len(tokens) - (end - begin))
        self.row = self.row[:begin] + tokens + self.row[end:]
        self.told = plain_run(self.grammar, self.table, self.row, kept)


def random_edit(rng, grammar, row, known):
    begin = rng.randint(0, len(row))
    end = rng.choice((begin, begin, min(begin + 1, len(row)), rng.randint(begin, len(row)), len(row)))
    kind = rng.random()
    if kind < 0.1:
        return (0, len(row), rng.choice(known))
    if kind < 0.2:
        return (begin, begin, ())
    if kind < 0.5 and known:
        # Some tokens of a sentence, so that rows stay near to sentences.
        other = rng.choice(known)
        return (begin, end, other[min(begin, len(other)):min(end, len(other)) + rng.randint(0, 1)])
    return (begin, end, tuple(rng.choice(grammar[0]) for _ in range(rng.choice((0, 1, 1, 2, 3)))))


class Edits(unittest.TestCase):
    def check_alike(self, edited, plain):
        word, place, tree, _, work, taken = plain.told
        self.assertEqual(edited.row, plain.row)
        self.assertEqual(edited.answer, parse(plain.grammar, plain.table, plain.row))
        self.assertEqual(edited.answer[0], word)
        self.assertEqual(edited.answer[1], tree if word == "tree" else place)
        self.assertEqual((edited.work, edited.taken), (work, tuple(taken)))
        self.assertEqual([type(edited.row), type(edited.answer), type(edited.work), type(edited.taken)], [tuple, tuple, int, tuple])

    def test_plain(self):
        rng = random.Random(441)
        seen = {"tree": 0, "refused": 0, "taken": 0, "two": 0}
        for grammar, table in any_tables(442, 50):
            rows = rows_for(rng, grammar, 6, 6)
            row = rng.choice(rows)
            if parse(grammar, table, row)[0] == "long":
                continue
            edited, plain = Edited(grammar, table, row), Plain(grammar, table, row)
            self.check_alike(edited, plain)
            self.assertEqual(edited.taken, ())
            for _ in range(6):
                edit = random_edit(rng, grammar, edited.row, rows)
                if parse(grammar, table, plain.row[:edit[0]] + edit[2] + plain.row[edit[1]:])[0] == "long":
                    break
                told = edited.replace(*edit)
                plain.replace(*edit)
                self.assertEqual(told, edited.answer)
                self.check_alike(edited, plain)
                seen[told[0]] += 1
                seen["taken"] += edited.taken != ()
                seen["two"] += len(edited.taken) > 1
        self.assertGreater(min(seen.values()), 30)

    def test_long_rows(self):
        rng = random.Random(443)
        for grammar, sort, row in (
            (LISTS, "lalr", ("open",) + ("num", "comma") * 60 + ("open", "num", "close", "close")), (HG, "lr1", ("a",) * 120 + ("b",)),
            (G, "slr", ("num", "plus") * 80 + ("num",)), (STARS, "lalr", ("star",) * 50 + ("name", "is") + ("star",) * 50 + ("name",)),
            (GG, "lalr", ("v",) * 30 + ("u",) + ("v",) * 30), (PLUS, "lalr", ("num", "plus", "left", "num", "right", "times") * 20 + ("num",)),
        ):
            table = table_by(grammar, sort, ((("left", ("plus",)), ("left", ("times",))), ()) if grammar == PLUS else ((), ()))
            edited, plain = Edited(grammar, table, row), Plain(grammar, table, row)
            saved = 0
            for turn in range(14):
                edit = random_edit(rng, grammar, edited.row, [row, edited.row])
                edited.replace(*edit)
                plain.replace(*edit)
                self.check_alike(edited, plain)
                saved += sum(deeds for _, _, deeds in edited.taken)
                if turn in (6, 10):
                    edited.replace(0, len(edited.row), row)
                    plain.replace(0, len(plain.row), row)
                    self.check_alike(edited, plain)
            self.assertGreater(saved, 0, grammar)

    def test_by_hand(self):
        row = ("num", "plus") * 5 + ("num",)
        edited = Edited(G, table_by(G, "slr"), row)
        self.assertEqual((edited.work, edited.taken, edited.row), (len(edited.answer[1]) + 1, (), row))
        # At the end: what is ahead of the last token is kept, but not what looks at a token that changes.
        edited.replace(11, 11, ("plus", "num"))
        self.assertEqual(edited.taken, ((0, 9, 19),))
        # At the beginning: each N is kept, no S is, as its base is state 0 at the place 0 alone.
        edited.replace(0, 0, ("num", "plus"))
        self.assertEqual(edited.taken, tuple((at, at + 1, 2) for at in range(4, 15, 2)))
        # Nothing by nothing, and all by the same.
        answer = edited.answer
        self.assertEqual(edited.replace(7, 7, ()), answer)
        self.assertLess(edited.work, 20)
        self.assertEqual(edited.replace(0, 15, edited.row), answer)
        self.assertEqual((edited.work, edited.taken), (len(answer[1]) + 1, ()))
        self.assertEqual(edited.replace(0, 15, ()), ("refused", 0, ("num",)))
        self.assertEqual((edited.work, edited.taken, edited.row), (0, (), ()))
        self.assertEqual(edited.replace(0, 0, ("num",)), ("tree", (1, 2, "num")))
        self.assertEqual((edited.work, edited.taken), (4, ()))

    def test_ends_of_pieces(self):
        table = table_by(G, "slr")
        row = ("num", "plus", "num", "plus", "num")
        # The token at the end of a piece must be ahead of the edit: N over (2, 3) looks at the token 3.
        for begin, taken in ((3, ((0, 1, 3),)), (4, ((0, 3, 7),)), (5, ((0, 3, 7),))):
            edited = Edited(G, table, row)
            edited.replace(begin, min(begin + 1, 5), row[begin:begin + 1])
            self.assertEqual(edited.taken[:1], taken, begin)
        for end, begins in ((1, [2, 4]), (2, [2, 4]), (3, [4])):
            edited = Edited(G, table, row)
            edited.replace(0, end, row[:end])
            self.assertEqual([begin for begin, _, _ in edited.taken], begins)

    def test_four_hundred(self):
        row = ("a",) * 399 + ("b",)
        edited = Edited(HG, HT, row)
        self.assertEqual(edited.answer, ("tree", (0, "a") * 399 + (1, "b")))
        before = (edited.row, edited.answer, edited.work, edited.taken)
        for edit in ((0, 0, ("a",)), (400, 400, ("b",)), (5, 6, ("a", "a")), (0, 400, ("a",) * 400 + ("b",)), (0, 0, ("a",) * 400)):
            self.assertIs(type(error_of(edited.replace, *edit)), InvalidRow)
            self.assertEqual((edited.row, edited.answer, edited.work, edited.taken), before)
        self.assertEqual(edited.replace(0, 1, ("a",)), ("tree", (0, "a") * 399 + (1, "b")))
        self.assertEqual((edited.work, edited.taken), (3, ((1, 400, 798),)))
        self.assertEqual(edited.replace(0, 400, ("a",) * 400)[:2], ("refused", 400))
        self.assertEqual(edited.replace(399, 400, ("b",))[0], "tree")
        self.assertEqual(edited.replace(0, 399, ()), ("tree", (1, "b")))
        # The base of b was a state behind a.
        self.assertEqual((edited.work, edited.taken), (3, ()))

    def test_too_long(self):
        empties = (("D", ("E",) * 3), ("E", ()))
        parts = ("a", "D", "D", "D", "D")
        lefts = (("a", "b"), "S", (("S", ("S", "T")), ("S", ("T",)), ("S", ("b",)), ("T", parts)) + empties)
        rights = (("a", "b"), "S", (("S", parts + ("S",)), ("S", ("b",))) + empties)
        words = {"tree": 0, "long": 0}
        unlike = 0
        for grammar, end in ((lefts, ()), (rights, ("b",))):
            table = table_by(grammar, "lalr")
            each = 19 if grammar == lefts else 18
            for count in (5000 // each - 2, 5000 // each - 1, 5000 // each, 5000 // each + 1, 300):
                row = ("a",) * count + end
                edited, plain = Edited(grammar, table, row), Plain(grammar, table, row)
                self.check_alike(edited, plain)
                for edit in (
                    (0, 0, ("a",)), (3, 3, ("a",) * 3), (0, 5, ()), (len(row) - 4, len(row) - 2, ()), (0, 1, ("b",)), (0, 1, ("a",)), (1, 2, ("a",)),
                ):
                    edited.replace(*edit)
                    plain.replace(*edit)
                    self.check_alike(edited, plain)
                    words[edited.answer[0]] = words.get(edited.answer[0], 0) + 1
                    unlike += edited.answer[0] == "long" and edited.taken != ()
        self.assertGreater(min(words["tree"], words["long"]), 15)
        self.assertGreater(unlike, 5)

    def test_shorter_pieces_that_fit(self):
        grammar = (
            ("a", "b"), "S",
            (("S", ("a", "S")), ("S", ("L",)), ("L", ("L", "T")), ("L", ("T",)), ("T", ("b",) + ("D",) * 6), ("D", ("E",) * 4), ("E", ())),
        )
        table = table_by(grammar, "lalr")
        row = ("a",) + ("b",) * 148
        edited, plain = Edited(grammar, table, row), Plain(grammar, table, row)
        self.check_alike(edited, plain)
        self.assertEqual(edited.answer[0], "tree")
        lengths = set()
        for many in (40, 60, 60, 60):
            edited.replace(0, 0, ("a",) * many)
            plain.replace(0, 0, ("a",) * many)
            self.check_alike(edited, plain)
            lengths.add(max(end - begin for begin, end, _ in edited.taken))
        self.assertEqual(edited.answer[0], "long")
        self.assertGreater(len(lengths), 2)

    def test_two_rows(self):
        table = table_by(LISTS, "lalr")
        rows = [("open", "num", "comma", "num", "close"), ("open", "open", "close", "close")]
        first, second = [Edited(LISTS, table, row) for row in rows]
        plain_first, plain_second = [Plain(LISTS, table, row) for row in rows]
        for edit in ((1, 2, ()), (1, 1, ("num",)), (4, 4, ("comma", "num")), (0, 1, ("open", "num", "comma"))):
            for edited, plain in ((first, plain_first), (second, plain_second)):
                edited.replace(*edit)
                plain.replace(*edit)
            self.check_alike(first, plain_first)
            self.check_alike(second, plain_second)


class Refusals(unittest.TestCase):
    def test_making(self):
        row = lambda value: type(value) is tuple and len(value) <= 400 and all(type(one) is str and one in HG[0] for one in value)
        errors = (InvalidGrammar, InvalidTable, InvalidRow)
        check_refusals(self, Edited, (HG, HT, ("a",)), errors, (nothing, nothing, row))

    def test_replacing(self):
        edited = Edited(HG, HT, ("a", "a", "b"))
        edited.replace(0, 1, ())
        before = frozen((edited.row, edited.answer, edited.work, edited.taken))
        bad_places = [value for value in junk() if type(value) is not int] + [-1, 3, 10 ** 119, True, False]
        for bad in bad_places:
            for rest in ((2, ()), (None, None), (bad, bad)):
                self.assertIs(type(error_of(edited.replace, bad, *rest)), InvalidNumber)
            for tokens in ((), None, ("c",)):
                self.assertIs(type(error_of(edited.replace, 0, bad, tokens)), InvalidNumber)
        self.assertIs(type(error_of(edited.replace, 2, 1, ())), InvalidNumber)
        self.assertIs(type(error_of(edited.replace, 1, 0, None)), InvalidNumber)
        for bad in [value for value in junk() if value not in ((), ("a",))] + [("c",), ("S",), ("a", None), "ab", ["a"]]:
            self.assertIs(type(error_of(edited.replace, 0, 1, bad)), InvalidRow)
            self.assertEqual(frozen((edited.row, edited.answer, edited.work, edited.taken)), before)
        self.assertEqual(edited.replace(0, 0, ("a",)), ("tree", (0, "a", 0, "a", 1, "b")))
        self.assertEqual((edited.work, edited.taken), (5, ((2, 3, 2),)))

    def test_arguments_stay(self):
        table = table_by(PLUS, "lalr")
        row = ("num", "plus", "num")
        before = frozen((PLUS, table, row))
        tokens = ("times", "num")
        edited = Edited(PLUS, table, row)
        answers = [edited.replace(3, 3, tokens), Edited(PLUS, table, row).replace(3, 3, tokens)]
        self.assertEqual(answers[0], answers[1])
        self.assertEqual(frozen((PLUS, table, row)), before)
        self.assertEqual(tokens, ("times", "num"))


if __name__ == "__main__":
    unittest.main()
