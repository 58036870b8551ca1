import unittest

from shiftroads.errors import InvalidGrammar, InvalidNumber, InvalidSymbols, InvalidTable, InvalidToken
from shiftroads.packing import pack_table, packed_deed, packed_goto, unpack_table
from shiftroads.tables import deed_of, goto_of
from tests.makers import G, HA, HG, HT, LISTS, PLUS, any_tables, check_refusals, check_steady, error_of, fan, frozen
from tests.makers import is_nonterminal_in, junk, letters_of, nothing, table_by


def numbers_in(value):
    """All that is no tuple in a value of tuples."""
    if type(value) is tuple:
        return [number for part in value for number in numbers_in(part)]
    return [value]


class Packing(unittest.TestCase):
    def test_unpacked(self):
        for grammar, table in any_tables(341, 120):
            packed = pack_table(grammar, table)
            self.assertEqual(unpack_table(grammar, packed), table)
            self.assertIs(type(packed), tuple)
            self.assertTrue(all(type(number) is int for number in numbers_in(packed)))

    def test_looking_up(self):
        for grammar, table in any_tables(342, 30):
            packed = pack_table(grammar, table)
            for state in range(len(table[0])):
                for token in grammar[0] + (None,):
                    self.assertEqual(packed_deed(grammar, packed, state, token), deed_of(grammar, table, state, token))
                for name in letters_of(grammar):
                    self.assertEqual(packed_goto(grammar, packed, state, name), goto_of(grammar, table, state, name))

    def test_by_hand(self):
        packed = pack_table(HG, HT)
        self.assertEqual(unpack_table(HG, packed), HT)
        self.assertEqual([packed_deed(HG, packed, 0, "b"), packed_deed(HG, packed, 0, None)], [("shift", 3), None])
        self.assertEqual([packed_deed(HG, packed, 1, None), packed_goto(HG, packed, 2, "S")], [("accept",), 4])
        refusing = ((("a", ("refuse",)), ("b", ("reduce", 0)), (None, ("refuse",))),), ((("S", 0),),)
        packed = pack_table(HG, refusing)
        self.assertEqual([packed_deed(HG, packed, 0, token) for token in ("a", "b", None)], [("refuse",), ("reduce", 0), ("refuse",)])
        self.assertEqual(unpack_table(HG, packed), refusing)
        self.assertEqual(unpack_table(HG, pack_table(HG, (((),) * 9, ((),) * 9))), (((),) * 9, ((),) * 9))

    def test_two_in_turn(self):
        tables = [(HG, HT), (G, table_by(G, "slr")), (PLUS, table_by(PLUS, "lalr")), (HG, (HA[::-1], HT[1]))]
        packed = [pack_table(*pair) for pair in tables]
        for _ in range(2):
            for (grammar, table), one in zip(tables, packed):
                self.assertEqual(unpack_table(grammar, one), table)
                self.assertEqual(packed_deed(grammar, one, 0, grammar[0][0]), deed_of(grammar, table, 0, grammar[0][0]))
            tables, packed = tables[::-1], packed[::-1]

    def test_rows_are_shared(self):
        count = 2000
        table = tuple(part * count for part in (HA[:1], ((("S", 1),),)))
        packed = pack_table(HG, table)
        self.assertEqual(unpack_table(HG, packed), table)
        # One number for each state and part, and no more for like rows.
        self.assertLess(len(numbers_in(packed)), 2 * count + 20)
        grammar = fan(9, 219)
        table = table_by(grammar, "lr1")
        packed = pack_table(grammar, table)
        self.assertEqual(unpack_table(grammar, packed), table)
        self.assertLess(len(numbers_in(packed)), len(table[0]) * 12)


class Refusals(unittest.TestCase):
    def test_kinds(self):
        packed = pack_table(HG, HT)
        pair = lambda value: type(value) is tuple and len(value) == 2
        state = lambda value: type(value) is int and 0 <= value < 5
        token = lambda value: value is None or type(value) is str and value in HG[0]
        check_refusals(self, pack_table, (HG, HT), (InvalidGrammar, InvalidTable), (nothing, nothing))
        check_refusals(self, unpack_table, (HG, packed), (InvalidGrammar, InvalidTable), (nothing, pair))
        errors = (InvalidGrammar, InvalidTable, InvalidNumber, InvalidToken)
        check_refusals(self, packed_deed, (HG, packed, 0, "a"), errors, (nothing, pair, state, token))
        errors = errors[:3] + (InvalidSymbols,)
        check_refusals(self, packed_goto, (HG, packed, 0, "S"), errors, (nothing, pair, state, is_nonterminal_in(HG)))
        for bad in [value for value in junk() if not pair(value)] + [packed + packed[:1], packed[:1], list(packed)]:
            self.assertIs(type(error_of(unpack_table, HG, bad)), InvalidTable)
            self.assertIs(type(error_of(packed_deed, HG, bad, None, 0)), InvalidTable)
            self.assertIs(type(error_of(packed_goto, HG, bad, None, None)), InvalidTable)
        for bad in (5, -1, True):
            self.assertIs(type(error_of(packed_deed, HG, packed, bad, "z")), InvalidNumber)

    def test_steady(self):
        rows = [(HG, HT), (G, table_by(G, "lalr")), (LISTS, table_by(LISTS, "lr1"))]
        check_steady(self, pack_table, rows)
        packed = [(grammar, pack_table(grammar, table)) for grammar, table in rows]
        check_steady(self, unpack_table, packed)
        check_steady(self, packed_deed, [pair + (1, None) for pair in packed])
        check_steady(self, packed_goto, [pair + (0, "S") for pair in packed])
        before = frozen(packed)
        packed_deed(*packed[0], 0, "a")
        self.assertEqual(frozen(packed), before)


if __name__ == "__main__":
    unittest.main()
