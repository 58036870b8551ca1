import random
import unittest

from shiftroads.charts import chart, dead_end, takes
from shiftroads.errors import InvalidGrammar, InvalidRow
from shiftroads.firsts import is_sentence
from tests.makers import BARE, C, EG, F, FC, G, GG, HG, J, LEVELED, LISTS, LOST, MIRROR, PLUS, RINGS, all_rows, check_refusals
from tests.makers import check_steady, error_of, nothing, plain_columns, prefixes_up_to, random_grammars, small_rows
from tests.makers import words_up_to

BARREN = (("a", "b"), "S", (("S", ("a", "S")), ("S", ("S",)), ("A", ("b",))))
# Tokens can go on behind what begins a sentence, in symbols without trees.
ASIDE = (("a", "b", "c"), "S", (("S", ("a",)), ("S", ("a", "B")), ("B", ("b", "B")), ("B", ("b", "c", "B"))))
KNOWN = [HG, G, F, C, EG, FC, GG, RINGS, LOST, J, MIRROR, LISTS, LEVELED, PLUS, BARE, BARREN, ASIDE]


def plain_dead_end(grammar, row, words, begins):
    """By the words of [58], by all sentences and all beginnings that are not longer."""
    if row in words:
        return None
    if not begins:
        return -1
    return max(count for count in range(len(row) + 1) if row[:count] in begins)


class Columns(unittest.TestCase):
    def test_plain(self):
        rng = random.Random(401)
        sizes = 0
        for grammar in KNOWN + random_grammars(402, 250):
            for row in small_rows(rng, grammar, 4):
                told = chart(grammar, row)
                self.assertEqual(told, plain_columns(grammar, row), (grammar, row))
                self.assertIs(type(told), tuple)
                self.assertEqual(len(told), len(row) + 1)
                sizes += sum(len(column) for column in told)
        self.assertGreater(sizes, 20000)

    def test_wide(self):
        rng = random.Random(403)
        for grammar in random_grammars(404, 60, most_right=8):
            for row in small_rows(rng, grammar, 2, 3):
                self.assertEqual(chart(grammar, row), plain_columns(grammar, row), (grammar, row))

    def test_by_hand(self):
        self.assertEqual(chart(HG, ()), (((-1, 0, 0), (0, 0, 0), (1, 0, 0)),))
        told = chart(HG, ("b", "a", "b"))
        self.assertEqual(told[1:], (((-1, 1, 0), (1, 1, 0)), (), ()))
        # Columns behind the dead end can have items.
        told = chart(ASIDE, ("a", "b", "b", "c"))
        self.assertTrue(all(told))
        self.assertEqual(dead_end(ASIDE, ("a", "b", "b", "c")), 1)
        told = chart(BARREN, ("a", "a"))
        self.assertTrue(all(told))
        self.assertEqual(dead_end(BARREN, ("a", "a")), -1)

    def test_four_hundred(self):
        row = ("a",) * 399 + ("b",)
        told = chart(HG, row)
        self.assertEqual(told[400], tuple([(-1, 1, 0)] + [(0, 2, at) for at in range(399)] + [(1, 1, 399)]))
        self.assertEqual([takes(HG, row), takes(HG, row[1:] + ("a",)), dead_end(HG, row[:399]), dead_end(HG, ("b",) * 400)], [True, False, 399, 1])
        told = chart(J, ("a",) * 60)
        self.assertEqual(len(told[60]), 1 + 60 + 59 + 1 + 2)
        self.assertEqual([takes(J, ("a",) * 400), dead_end(J, ("a",) * 400)], [True, None])
        for function in (chart, takes, dead_end):
            self.assertIs(type(error_of(function, HG, ("a",) * 401)), InvalidRow)


class Ends(unittest.TestCase):
    def test_all_rows(self):
        seen = {None: 0, -1: 0, 0: 0, 1: 0, 2: 0}
        for grammar in KNOWN + random_grammars(405, 120):
            words = words_up_to(grammar, 4)[grammar[1]]
            rng = random.Random(406)
            for row in [row for row in all_rows(grammar[0], 4) if len(grammar[0]) < 3 or rng.random() < 0.1]:
                self.assertIs(takes(grammar, row), row in words, (grammar, row))
                self.assertIs(is_sentence(grammar, row), row in words)
                self.assertEqual(dead_end(grammar, row) is None, row in words)
            begins = prefixes_up_to(grammar, 4)
            for row in small_rows(rng, grammar, 6, 4):
                told = dead_end(grammar, row)
                self.assertEqual(told, plain_dead_end(grammar, row, words, begins), (grammar, row))
                if told in seen:
                    seen[told] += 1
        self.assertGreater(min(seen.values()), 15)

    def test_kinds(self):
        row = lambda value: type(value) is tuple and len(value) <= 400 and all(type(one) is str and one in G[0] for one in value)
        for function in (chart, takes, dead_end):
            check_refusals(self, function, (G, ("num",)), (InvalidGrammar, InvalidRow), (nothing, row))
            for bad in (("S",), ["num"], "num", (None,), ("num", "x")):
                self.assertIs(type(error_of(function, G, bad)), InvalidRow)
            check_steady(self, function, [(G, ("num", "plus")), (J, ("a", "a")), (RINGS, ()), (ASIDE, ("a", "b"))])


if __name__ == "__main__":
    unittest.main()
