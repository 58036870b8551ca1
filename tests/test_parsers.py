import random
import unittest

from shiftroads.builds import built
from shiftroads.conflicts import conflicts
from shiftroads.errors import InvalidGrammar, InvalidRow, InvalidTable, InvalidToken
from shiftroads.parsers import Parser, expected, parse, parse_by_defaults
from shiftroads.tables import is_full, is_sound, with_defaults
from shiftroads.trees import is_tree, leaves_of
from tests.makers import BARE, EG, F, FC, FL, G, GG, HA, HG, HT, LISTS, MIRROR, PLUS, RINGS, STARS, all_rows, any_tables
from tests.makers import built_tables, check_refusals, check_steady, error_of, frozen, junk, nothing, plain_expected
from tests.makers import plain_machine_run, plain_parse, random_grammars, random_table, rows_for, sentences_up_to, table_by
from tests.makers import trees_by_height, with_item, words_up_to

# Reduces nothing to A again and again, with any token ahead.
LOOP = (("a", "b"), "S", (("S", ("A", "a")), ("A", ()), ("A", ("A", "A"))))
LT = (((("a", ("reduce", 1)), (None, ("reduce", 1))),), ((("A", 0),),))


def loop_after(many):
    """A grammar and a table for HG's tokens: behind so many tokens, each with one shift, a state reduces without end."""
    grammar = (("a", "b"), "S", (("S", ("a", "A")), ("A", ())))
    actions = [(("a", ("shift", 1)),)] + [(("a", ("shift", at + 1)),) for at in range(1, many)]
    actions.append((("b", ("reduce", 1)),))
    gotos = [()] * many + [(("A", many),)]
    return grammar, (tuple(actions), tuple(gotos))


class Parses(unittest.TestCase):
    def test_plain(self):
        rng = random.Random(321)
        kinds = {"tree": 0, "refused": 0, "long": 0}
        for grammar, table in any_tables(322, 120):
            for row in rows_for(rng, grammar, 6):
                told = parse(grammar, table, row)
                if told[0] == "long":
                    self.assertEqual(told[1], plain_machine_run(grammar, table, row, limit=400)[1])
                else:
                    self.assertEqual(told, plain_parse(grammar, table, row), (grammar, table, row))
                kinds[told[0]] += 1
        self.assertGreater(min(kinds.values()), 30)

    def test_expected(self):
        rng = random.Random(323)
        seen = {0: 0, 1: 0, 2: 0, 3: 0}
        for grammar, table in any_tables(324, 60):
            for row in rows_for(rng, grammar, 5):
                if plain_machine_run(grammar, table, row, limit=500)[0] != "long":
                    told = expected(grammar, table, row)
                    self.assertEqual(told, plain_expected(grammar, table, row))
                    seen[min(len(told), 3)] += 1
        self.assertGreater(min(seen.values()), 20)

    def test_by_defaults(self):
        rng = random.Random(325)
        seen = {"tree": 0, "refused": 0, "unlike": 0}
        for grammar, table in any_tables(326, 120):
            both = is_sound(grammar, table) and is_full(grammar, table)
            for row in rows_for(rng, grammar, 5):
                told = parse_by_defaults(grammar, table, row)
                if told[0] == "long":
                    continue
                filled = with_defaults(grammar, table)
                self.assertEqual(told, plain_parse(grammar, table, row, filled), (grammar, table, row))
                seen[told[0]] += 1
                if both:
                    self.assertEqual(told, parse(grammar, table, row))
                else:
                    seen["unlike"] += told != parse(grammar, table, row)
        self.assertGreater(min(seen.values()), 20)

    def test_trees_are_trees(self):
        rng = random.Random(327)
        for grammar, table in built_tables(328, 100):
            for row in rows_for(rng, grammar, 6):
                told = parse(grammar, table, row)
                if told[0] == "tree":
                    self.assertTrue(is_tree(grammar, grammar[1], told[1]))
                    self.assertEqual(leaves_of(grammar, grammar[1], told[1]), row)

    def test_refused_at_the_first_token(self):
        rng = random.Random(329)
        rows = 0
        for grammar in [HG, G, EG, FL, FC, STARS, LISTS, BARE] + random_grammars(330, 250):
            names = {left for left, _ in grammar[2]}
            if trees_by_height(grammar, grammar[0]) != names:
                continue
            for sort in ("slr", "lalr", "lr1"):
                if conflicts(grammar, built(grammar, sort)):
                    continue
                table = table_by(grammar, sort)
                known = sentences_up_to(grammar, 9)
                for row in rows_for(rng, grammar, 8, 6):
                    if len(row) > 6:
                        continue
                    told = parse(grammar, table, row)
                    self.assertEqual(told[0] == "tree", row in known)
                    if told[0] == "refused":
                        rows += 1
                        place = told[1]
                        going = [word for word in known if word[:place] == row[:place]]
                        behind = {word[place:place + 1] for word in going}
                        self.assertNotIn(row[place:place + 1], behind, (grammar, row))
                        # Each way on is a beginning; those that the short sentences show are all expected.
                        self.assertTrue({(token,) if token else () for token in told[2]} >= behind)
                        self.assertTrue(going or place == 0 or len(row) > 4, (grammar, row, told))
        self.assertGreater(rows, 300)

    def test_by_hand(self):
        self.assertEqual(parse(HG, HT, ()), ("refused", 0, ("a", "b")))
        self.assertEqual(parse(HG, HT, ("b", "b")), ("refused", 1, (None,)))
        self.assertEqual(expected(HG, HT, ("b",)), (None,))
        self.assertEqual(expected(HG, HT, ("b", "a")), ())
        # Fewer trees than the rule has; a goto that is wanting; accept with no tree.
        self.assertEqual(parse(HG, (with_item(HA, 0, (("a", ("reduce", 0)),)), HT[1]), ("a",)), ("refused", 0, ()))
        self.assertEqual(parse(HG, (HA, with_item(HT[1], 2, ())), ("a", "b")), ("refused", 2, ()))
        self.assertEqual(parse(HG, (HA, with_item(HT[1], 0, ())), ("a", "b")), ("refused", 2, ()))
        self.assertEqual(parse(HG, (((("a", ("refuse",)), (None, ("accept",))),), ((),)), ()), ("refused", 0, ()))
        # Accept tells the last tree, whatever stands ahead of it.
        table = (((("a", ("shift", 0)), ("b", ("shift", 0)), (None, ("accept",))),), ((),))
        self.assertEqual(parse(HG, table, ("a", "b")), ("tree", ("b",)))
        self.assertEqual(parse(HG, table, ()), ("refused", 0, ("a", "b")))

    def test_four_hundred(self):
        row = ("a",) * 399 + ("b",)
        self.assertEqual(parse(HG, HT, row), ("tree", (0, "a") * 399 + (1, "b")))
        self.assertEqual(parse_by_defaults(HG, HT, row), parse(HG, HT, row))
        self.assertEqual(expected(HG, HT, ("a",) * 400), ("a", "b"))
        self.assertEqual(parse(HG, HT, ("a",) * 400), ("refused", 400, ("a", "b")))
        for function in (parse, parse_by_defaults, expected):
            self.assertIs(type(error_of(function, HG, HT, ("a",) * 401)), InvalidRow)

    def test_too_long(self):
        self.assertEqual(parse(LOOP, LT, ("a", "b")), ("long", 0))
        self.assertEqual(parse(LOOP, LT, ()), ("long", 0))
        self.assertEqual(expected(LOOP, LT, ()), ())
        self.assertEqual(expected(LOOP, LT, ("a",)), ())
        for many in (1, 7, 399):
            grammar, table = loop_after(many)
            row = ("a",) * many
            self.assertEqual(parse(grammar, table, row + ("b",)), ("long", many))
            self.assertEqual(parse(grammar, table, row), ("refused", many, ()))
            self.assertEqual(expected(grammar, table, row), ())
            self.assertEqual(expected(grammar, table, row + ("b",) if many < 400 else row), ())

    def test_five_thousand(self):
        # Each token makes as many deeds as there are states behind it: a shift, and reductions of nothing.
        for each, rest in ((20, 0), (20, 1), (19, 5), (21, 3), (49, 49), (1249, 0)):
            grammar = (("a", "b"), "S", (("S", ("a",)), ("A", ())))
            ring = [(("a", ("shift", 1)),)] + [(("a", ("reduce", 1)),) for _ in range(each - 1)] + [(("a", ("shift", 1)),)]
            gotos = [()] + [(("A", at + 2),) for at in range(each - 1)] + [()]
            for many in range(5000 // each - 1, 5000 // each + 2):
                if many > 400:
                    continue
                row = ("a",) * many
                told = parse(grammar, (tuple(ring), tuple(gotos)), row)
                self.assertEqual(told, plain_parse(grammar, (tuple(ring), tuple(gotos)), row))

    def test_exact_limit(self):
        # 398 tokens with 12 deeds each, and then so many more: in all 5,000 may be done.
        grammar = (("a", "b"), "S", (("S", ("a",)), ("A", ())))
        for last in (221, 222, 223, 224, 225):
            actions = [(("a", ("shift", 1)), ("b", ("shift", 13)))]
            gotos = [()]
            for at in range(1, 12):
                actions.append((("a", ("reduce", 1)), ("b", ("reduce", 1))))
                gotos.append((("A", at + 1),))
            actions.append((("a", ("shift", 1)), ("b", ("shift", 13))))
            gotos.append(())
            for at in range(last):
                actions.append((("b", ("reduce", 1)), (None, ("reduce", 1))))
                gotos.append((("A", 14 + at),))
            ends = (((None, ("accept",)), ("b", ("shift", 0))), (), ((None, ("refuse",)),))
            for end in ends:
                table = (tuple(actions) + (tuple(sorted(end, key=lambda pair: pair[0] is None)),), tuple(gotos) + ((),))
                row = ("a",) * 398 + ("b",)
                told = parse(grammar, table, row)
                self.assertEqual(told, plain_parse(grammar, table, row))
                # 398 * 12 + 1 + last deeds are done; one more, if it can be done, must not be the 5,001st.
                done = 398 * 12 + 1 + last
                if end and end[0][1] == ("accept",):
                    self.assertEqual(told[0], "tree" if done < 5000 else "long")
                    self.assertEqual(expected(grammar, table, row), ("b", None) if done < 5000 else ())
                else:
                    self.assertEqual(told[0], "refused" if done <= 5000 else "long")
                self.assertEqual(told[1] if told[0] != "tree" else 399, 399)


class Parsers(unittest.TestCase):
    def check_alike(self, parser, grammar, table, row):
        kind, place, states, trees, _ = plain_machine_run(grammar, table, row, with_end=False)
        self.assertEqual(parser.states, states)
        self.assertIs(type(parser.states), list)
        self.assertEqual(parser.place, place)
        self.assertEqual(parser.trees(), trees)
        self.assertIs(type(parser.trees()), list)
        return kind

    def test_token_by_token(self):
        rng = random.Random(331)
        words = {}
        for grammar, table in any_tables(332, 60):
            for row in rows_for(rng, grammar, 4):
                if plain_machine_run(grammar, table, row, limit=500)[0] == "long":
                    continue
                parser = Parser(grammar, table)
                self.check_alike(parser, grammar, table, ())
                for at, token in enumerate(row):
                    word = parser.feed(token)
                    words[word] = words.get(word, 0) + 1
                    self.assertEqual(self.check_alike(parser, grammar, table, row[:at + 1]), word)
                    if word != "on":
                        break
                else:
                    word = parser.feed(None)
                    words[word] = words.get(word, 0) + 1
                    kind, place, states, trees, _ = plain_machine_run(grammar, table, row)
                    self.assertEqual((word, parser.place, parser.states, parser.trees()), (kind, place, states, trees))
                    if word == "tree":
                        self.assertEqual(parser.trees()[-1], parse(grammar, table, row)[1])
                before = (parser.place, list(parser.states), parser.trees())
                for token in grammar[0] + (None,):
                    self.assertEqual(parser.feed(token), word)
                    self.assertEqual((parser.place, parser.states, parser.trees()), before)
        self.assertGreater(min(words.values()), 60)
        self.assertEqual(set(words), {"on", "tree", "refused"})

    def test_long(self):
        parser = Parser(LOOP, LT)
        self.assertEqual(parser.feed("a"), "long")
        self.assertEqual([parser.place, len(parser.states), len(parser.trees())], [0, 5001, 5000])
        self.assertEqual([parser.feed("b"), parser.feed(None), parser.feed("a")], ["long"] * 3)
        self.assertEqual(len(parser.states), 5001)
        self.assertEqual(parser.copy().feed("a"), "long")

    def test_more_than_four_hundred(self):
        parser = Parser(HG, HT)
        for at in range(1000):
            self.assertEqual(parser.feed("a"), "on")
            self.assertEqual(parser.place, at + 1)
        self.assertEqual([parser.feed("b"), parser.feed(None), parser.place], ["on", "tree", 1001])
        self.assertEqual(parser.trees(), [(0, "a") * 1000 + (1, "b")])

    def test_copies(self):
        rng = random.Random(333)
        for grammar, table in any_tables(334, 30):
            for row in rows_for(rng, grammar, 3):
                if plain_machine_run(grammar, table, row, limit=500)[0] == "long":
                    continue
                parser = Parser(grammar, table)
                for token in row[:len(row) // 2]:
                    parser.feed(token)
                other = parser.copy()
                self.assertIs(type(other), Parser)
                self.assertIsNot(other.states, parser.states)
                before = (parser.place, list(parser.states), parser.trees())
                self.assertEqual((other.place, other.states, other.trees()), before)
                told = [other.feed(token) for token in row[len(row) // 2:] + (None,)]
                after = (other.place, list(other.states), other.trees())
                self.assertEqual((parser.place, parser.states, parser.trees()), before)
                third = other.copy()
                self.assertEqual([parser.feed(token) for token in row[len(row) // 2:] + (None,)], told)
                self.assertEqual((parser.place, parser.states, parser.trees()), after)
                self.assertEqual((third.place, third.states, third.trees()), after)
                self.assertEqual(third.feed(None), told[-1])

    def test_spoilt(self):
        parser = Parser(HG, HT)
        parser.feed("a")
        parser.trees().append("more")
        parser.trees()[0] = ()
        parser.trees().clear()
        self.assertEqual(parser.trees(), [("a",)])
        self.assertEqual([parser.feed("b"), parser.feed(None), parser.trees()], ["on", "tree", [(0, "a", 1, "b")]])

    def test_no_tokens(self):
        parser = Parser(HG, HT)
        parser.feed("a")
        for turn in range(2):
            before = (parser.place, list(parser.states), parser.trees())
            for bad in junk() + ["c", "S", ("b",), True]:
                if bad is not None and bad != "a":
                    self.assertIs(type(error_of(parser.feed, bad)), InvalidToken)
                    self.assertEqual((parser.place, parser.states, parser.trees()), before)
            self.assertEqual(parser.feed(None), "refused")

    def test_fields(self):
        parser = Parser(HG, HT)
        self.assertEqual((parser.states, parser.place, parser.trees()), ([0], 0, []))
        before = frozen((HG, HT))
        parser.feed("a")
        self.assertEqual((parser.states, parser.place), ([0, 2], 1))
        self.assertEqual(frozen((HG, HT)), before)
        two = [Parser(HG, HT), Parser(G, table_by(G, "slr"))]
        self.assertEqual([two[0].feed("a"), two[1].feed("num"), two[0].feed("b"), two[1].feed("plus")], ["on"] * 4)
        self.assertEqual([two[0].trees(), two[1].trees()], [[("a",), ("b",)], [(1, 2, "num"), ("plus",)]])


class Refusals(unittest.TestCase):
    def test_kinds(self):
        row = lambda value: type(value) is tuple and len(value) <= 400 and all(type(one) is str and one in HG[0] for one in value)
        errors = (InvalidGrammar, InvalidTable, InvalidRow)
        for function in (parse, parse_by_defaults, expected):
            check_refusals(self, function, (HG, HT, ("a",)), errors, (nothing, nothing, row))
            for bad in (("S",), ("c",), ["a"], "a", ("a", None), (("a",),), None):
                self.assertIs(type(error_of(function, HG, HT, bad)), InvalidRow)
        check_refusals(self, Parser, (HG, HT), errors[:2], (nothing, nothing))

    def test_steady(self):
        triples = [
            (HG, HT, ("a", "b")), (HG, HT, ("a", "a")), (RINGS, table_by(RINGS, "lalr"), ("a", "a")), (LOOP, LT, ("a",)),
            (GG, table_by(GG, "lalr"), ("v", "u", "v")), (PLUS, table_by(PLUS, "lr1"), ("num", "plus")),
        ]
        for function in (parse, parse_by_defaults, expected):
            check_steady(self, function, triples)


if __name__ == "__main__":
    unittest.main()
