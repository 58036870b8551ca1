import random
import unittest

from shiftroads.builds import built
from shiftroads.conflicts import settled_rows
from shiftroads.errors import InvalidGrammar, InvalidNumber, InvalidSymbols, InvalidTable, InvalidToken
from shiftroads.parsers import parse, parse_by_defaults
from shiftroads.tables import deed_of, goto_of, is_full, is_sound, is_table, table_of, with_defaults
from tests.makers import BARE, EG, F, FC, FL, G, GG, HA, HG, HT, LISTS, MIRROR, NONE, PLUS, RINGS, STARS, any_tables, bent
from tests.makers import built_tables, check_refusals, check_steady, error_of, fan, frozen, is_nonterminal_in, junk, letters_of
from tests.makers import nothing, random_grammars, random_table, rows_for, table_by, token_key, turned_table, with_item


def is_plain_table(grammar, value):
    """A second way to tell tables."""
    if type(value) is not tuple or len(value) != 2 or not all(type(part) is tuple for part in value):
        return False
    if len(value[0]) != len(value[1]) or not 1 <= len(value[0]) <= 2000:
        return False
    count = len(value[0])
    deeds = [("refuse",)] + [("shift", at) for at in range(count)] + [("reduce", at) for at in range(len(grammar[2]))]
    for row in value[0] + value[1]:
        if type(row) is not tuple or not all(type(pair) is tuple and len(pair) == 2 for pair in row):
            return False
    for row in value[0]:
        for token, deed in row:
            if token is not None and (type(token) is not str or token not in grammar[0]):
                return False
            if deed == ("accept",) and token is None:
                continue
            if type(deed) is not tuple or deed not in deeds or any(type(part) is bool for part in deed):
                return False
            if token is None and deed[0] == "shift":
                return False
        tokens = [token for token, _ in row]
        if tokens != sorted(set(tokens), key=token_key):
            return False
    for row in value[1]:
        if not all(type(name) is str and name in letters_of(grammar) for name, _ in row):
            return False
        if not all(type(at) is int and 0 <= at < count for _, at in row) or list(row) != sorted(dict(row).items()):
            return False
    return True


def plain_leads(table):
    """The list of all (state, symbol, state to which it leads)."""
    found = []
    for state, (row, gotos) in enumerate(zip(*table)):
        found += [(state, token, deed[1]) for token, deed in row if deed[0] == "shift"]
        found += [(state, name, target) for name, target in gotos]
    return found


def ways_back(leads, state, steps):
    """All ways back of so many steps, one by one, each with its symbols."""
    if steps == 0:
        return [((state,), ())]
    return [
        (states + (state,), symbols + (symbol,))
        for one, symbol, target in leads if target == state
        for states, symbols in ways_back(leads, one, steps - 1)
    ]


def is_plain_sound(grammar, table):
    """By the words of [42]."""
    leads = plain_leads(table)
    if any(target == 0 for _, _, target in leads):
        return False
    for state in range(len(table[0])):
        if len({symbol for _, symbol, target in leads if target == state}) > 1:
            return False
        for token, deed in table[0][state]:
            if deed == ("accept",):
                if state == 0 or any(lead[:2] != (0, grammar[1]) for lead in leads if lead[2] == state):
                    return False
            if deed[0] == "reduce":
                left, right = grammar[2][deed[1]]
                for steps in range(len(right) + 1):
                    for states, symbols in ways_back(leads, state, steps):
                        if symbols != right[len(right) - steps:]:
                            return False
                        if steps < len(right) and states[0] == 0:
                            return False
                        if steps == len(right) and left not in dict(table[1][states[0]]):
                            return False
    return True


def plain_defaults(table):
    """By the words of [43]: the defaults of all states."""
    found = []
    for row in table[0]:
        rules = [deed[1] for _, deed in row if deed[0] == "reduce"]
        found.append(max(rules, key=lambda rule: (rules.count(rule), -rule)) if rules else -1)
    return found


def plain_open(grammar, table):
    """By the words of [44]: the set of all open passages, found by turns."""
    leads = plain_leads(table)
    defaults = plain_defaults(table)
    passages = [
        (state, name, token) for state in range(len(table[0])) for name, _ in table[1][state] for token in grammar[0] + (None,)
    ]
    found = set()
    before = None
    while before != found:
        before = set(found)
        found |= {passage for passage in passages if is_open_by(grammar, table, leads, defaults, before, passage)}
    return found


def is_open_by(grammar, table, leads, defaults, known, passage):
    first, name, token = passage
    stack = [first, dict(table[1][first])[name]]
    done = 0
    while done <= 100:
        deed = dict(table[0][stack[-1]]).get(token)
        if deed is None and defaults[stack[-1]] >= 0:
            deed = ("reduce", defaults[stack[-1]])
        if deed is None or deed[0] == "refuse":
            return False
        if deed[0] in ("shift", "accept"):
            return True
        left, right = grammar[2][deed[1]]
        more = len(right) - (len(stack) - 1)
        if more > 0:
            return any((states[0], left, token) in known for states, _ in ways_back(leads, first, more))
        stack = stack[:len(stack) - len(right)]
        if left not in dict(table[1][stack[-1]]):
            return False
        stack.append(dict(table[1][stack[-1]])[left])
        done += 1
    return True


def is_plain_full(grammar, table):
    leads = plain_leads(table)
    found = plain_open(grammar, table)
    for state, default in enumerate(plain_defaults(table)):
        if default >= 0:
            left, right = grammar[2][default]
            for token in grammar[0] + (None,):
                if token not in dict(table[0][state]):
                    if any((states[0], left, token) in found for states, _ in ways_back(leads, state, len(right))):
                        return False
    return True


# From state 1 the machine with defaults reduces by the empty rule again and again; from state 3 as often as is told.
ENDLESS = (("a", "b"), "S", (("S", ("a", "A")), ("A", ()), ("S", ("S", "A"))))


def counted(many):
    """A grammar and a table for which a passage has so many reductions, behind which the token is shifted."""
    grammar = (("a", "b"), "S", (("S", ("a", "A")), ("A", ())))
    # State 1 is behind a, state 2 behind A; then come states that each reduce nothing to A.
    actions = [(("a", ("shift", 1)),), (("a", ("reduce", 1)),)]
    gotos = [(), (("A", 2),)]
    for at in range(many):
        actions.append((("b", ("reduce", 1)),))
        gotos.append((("A", 3 + at),))
    actions.append((("b", ("shift", 2)),))
    gotos.append(())
    return grammar, (tuple(actions), tuple(gotos))


class Kinds(unittest.TestCase):
    def test_built(self):
        for grammar, table in built_tables(301, 60):
            self.assertIs(is_table(grammar, table), True)
            self.assertTrue(is_plain_table(grammar, table))

    def test_random(self):
        rng = random.Random(302)
        for grammar in random_grammars(303, 150):
            table = random_table(rng, grammar)
            self.assertIs(is_table(grammar, table), True)
            for _ in range(5):
                table = turned_table(rng, grammar, table)
                self.assertIs(is_table(grammar, table), True)

    def test_bent(self):
        rng = random.Random(304)
        seen = {True: 0, False: 0}
        pairs = [(HG, HT), (G, table_by(G, "slr")), (PLUS, table_by(PLUS, "lalr", ((("none", ("plus",)),), ())))]
        for grammar, table in pairs + [(grammar, random_table(rng, grammar)) for grammar in random_grammars(305, 10)]:
            values = bent(table)
            rng.shuffle(values)
            for value in values[:2500]:
                right = is_plain_table(grammar, value)
                seen[right] += 1
                self.assertIs(is_table(grammar, value), right, value)
                if not right:
                    self.assertIs(type(error_of(is_sound, grammar, value)), InvalidTable)
        self.assertGreater(min(seen.values()), 300)

    def test_by_hand(self):
        first, gotos = HA[0], HT[1]
        for row in (
            first[::-1], first + first[1:], first + ((None, ("shift", 1)),), (("a", ("accept",)),), (("a", ("shift", 5)),),
            (("a", ("shift", -1)),), (("a", ("shift", True)),), (("a", ("reduce", 2)),), (("a", ("reduce", False)),),
            (("a", ("reduce", -1)),), (("a", ("refuse", 1)),), (("a", ["refuse"]),), (("a", ()),), (("a", None),),
            (["a", ("refuse",)],), [("a", ("refuse",))], (("c", ("refuse",)),), (("S", ("refuse",)),), ((None, ("refuse",)), ("a", ("refuse",))),
            (("a", ("shift",)),), (("a", ("accept",)), (None, ("accept",))), ((None, ("accept", 1)),), (("a", ("shift", 1, 1)),),
            (("a", ("go", 1)),), (("a", ("shift", "1")),), (("a",),), None, (True,),
        ):
            self.assertIs(is_table(HG, ((row,) + HA[1:], gotos)), False, row)
        for row in (
            (("S", 5),), (("S", -1),), (("S", True),), (("T", 1),), (("a", 1),), (("S", 1), ("S", 2)), [("S", 1)], (["S", 1],), (("S",),),
            ((None, 1),), None, (("S", None),),
        ):
            self.assertIs(is_table(HG, (HA, (row,) + gotos[1:])), False, row)
        for value in ((HA, gotos[1:]), (HA[1:], gotos), (HA, gotos, ()), [HA, gotos], (list(HA), gotos), ((), ()), (HA,), ()):
            self.assertIs(is_table(HG, value), False)
        for row in ((), (("a", ("refuse",)), (None, ("accept",))), ((None, ("refuse",)),), ((None, ("reduce", 1)),), (("b", ("reduce", 0)),)):
            self.assertIs(is_table(HG, ((row,) + HA[1:], gotos)), True, row)
        self.assertIs(is_table(LISTS, (((),), ((("L", 0), ("S", 0)),))), True)
        self.assertIs(is_table(LISTS, (((),), ((("S", 0), ("L", 0)),))), False)

    def test_many_states(self):
        one = (((("a", ("shift", 1999)),),), ((("S", 1999),),))
        self.assertIs(is_table(HG, tuple(part * 2000 for part in one)), True)
        self.assertIs(is_table(HG, tuple(part * 2001 for part in one)), False)
        self.assertIs(is_table(HG, tuple(part * 1999 for part in one)), False)
        grammar = fan(9, 219)
        self.assertIs(is_table(grammar, table_by(grammar, "lr1")), True)

    def test_any_values(self):
        for value in junk():
            self.assertIs(is_table(HG, value), False)


class Making(unittest.TestCase):
    def test_table_of(self):
        for grammar in (HG, G, F, FC, STARS, LISTS):
            machine = built(grammar, "lr1")
            rows = settled_rows(grammar, machine, NONE, True)
            table = table_of(grammar, machine[1], rows)
            self.assertEqual(table[0], rows)
            names = letters_of(grammar)
            self.assertEqual(table[1], tuple(tuple(pair for pair in row if pair[0] in names) for row in machine[1]))
            before = frozen((machine, rows))
            self.assertEqual(table_of(grammar, machine[1], rows), table)
            self.assertEqual(frozen((machine, rows)), before)

    def test_left_out(self):
        ways = ((("S", 1), ("a", 7), (None, []), (5, "x"), ("T", -3), ((), ())), (), (("S", 4),), (), ())
        self.assertEqual(table_of(HG, ways, HA), HT)

    def test_refused(self):
        ways = HT[1]
        for bad in (
            list(ways), (list(ways[0]),) + ways[1:], ((("S", 1, 1),),) + ways[1:], ((["S", 1],),) + ways[1:], ((("S",),),) + ways[1:],
            ((("S", 5),),) + ways[1:], ((("S", True),),) + ways[1:], ways[1:], ways + ((),), None, (None,) * 5, ((("S", 1), ("S", 2)),) + ways[1:],
            (("S", 1),) * 5, "SSSSS", ways[:1] + ((("a",),),) + ways[2:], ways[:1] + ((("a", 1, 1),),) + ways[2:],
            ways[:1] + ((("a", 1), ()),) + ways[2:],
        ):
            self.assertIs(type(error_of(table_of, HG, bad, HA)), InvalidTable, bad)
        for bad in (list(HA), HA[1:], HA + ((),), None, (HA[0][::-1],) + HA[1:], ((("a", ("shift",)),),) + HA[1:]):
            self.assertIs(type(error_of(table_of, HG, ways, bad)), InvalidTable, bad)
        # Nothing is left of these two ways, but they are pairs.
        self.assertEqual(table_of(HG, (((1, 2), ("c", ())),), ((),)), (((),), ((),)))
        machine = built(GG, "lalr")
        self.assertIs(type(error_of(table_of, GG, machine[1], machine[0])), InvalidTable)

    def test_looking_up(self):
        for grammar, table in any_tables(306, 25):
            for state in range(len(table[0])):
                for token in grammar[0] + (None,):
                    told = [deed for one, deed in table[0][state] if one == token]
                    self.assertEqual(deed_of(grammar, table, state, token), told[0] if told else None)
                for name in letters_of(grammar):
                    told = [target for one, target in table[1][state] if one == name]
                    self.assertEqual(goto_of(grammar, table, state, name), told[0] if told else None)
        self.assertEqual(deed_of(HG, HT, 1, None), ("accept",))
        self.assertEqual(goto_of(HG, HT, 0, "S"), 1)


class Soundness(unittest.TestCase):
    def test_built(self):
        for grammar, table in built_tables(307, 80):
            if not any(deed[0] == "reduce" and grammar[2][deed[1]][1] == () for row in table[0] for _, deed in row):
                self.assertIs(is_sound(grammar, table), True)

    def test_plain(self):
        seen = {True: 0, False: 0}
        for grammar, table in any_tables(308, 150):
            if len(table[0]) < 40:
                right = is_plain_sound(grammar, table)
                self.assertIs(is_sound(grammar, table), right, (grammar, table))
                seen[right] += 1
        self.assertGreater(min(seen.values()), 150)

    def test_by_hand(self):
        self.assertIs(is_sound(HG, HT), True)
        gotos = HT[1]
        for actions, leads in (
            # A way to state 0; one state led to by two symbols; a goto that is wanting; too few states.
            ((((("a", ("shift", 0)),),) + HA[1:]), gotos),
            (HA, with_item(gotos, 0, (("S", 3),))), (HA, with_item(gotos, 2, ())), (with_item(HA, 1, ((None, ("reduce", 0)),)), gotos),
            # Wrong symbols; accept in state 0, behind other symbols, from another state.
            (with_item(HA, 3, ((None, ("reduce", 0)),)), gotos), (with_item(HA, 0, ((None, ("accept",)),)), gotos),
            (with_item(HA, 3, ((None, ("accept",)),)), gotos), (HA, with_item(gotos, 2, (("S", 1),))),
            (with_item(HA, 0, ((None, ("reduce", 1)),)), gotos),
        ):
            self.assertIs(is_table(HG, (actions, leads)), True)
            self.assertIs(is_sound(HG, (actions, leads)), False)
            self.assertFalse(is_plain_sound(HG, (actions, leads)))
        # A state that nothing leads to may accept, and reduce by any rule that is not empty.
        more = (HA + (((None, ("accept",)),), ((None, ("reduce", 0)),)), gotos + ((), ()))
        self.assertIs(is_sound(HG, more), True)
        empty = (("a",), "S", (("S", ()),))
        self.assertIs(is_sound(empty, ((((None, ("reduce", 0)),), ((None, ("accept",)),)), ((("S", 1),), ()))), True)
        self.assertIs(is_sound(empty, ((((None, ("reduce", 0)),), ((None, ("accept",)),)), ((), ()))), False)
        self.assertIs(is_sound(empty, (((), ((None, ("reduce", 0)),)), ((("S", 1),), ()))), False)

    def test_sound_ones_read_trees(self):
        rng = random.Random(309)
        for grammar, table in any_tables(310, 60):
            if is_sound(grammar, table):
                for row in rows_for(rng, grammar, 6):
                    told = parse(grammar, table, row)
                    if told[0] == "tree":
                        self.assertEqual(tuple(item for item in told[1] if type(item) is str), row)

    def test_large(self):
        grammar = fan(9, 219)
        table = table_by(grammar, "lr1")
        self.assertIs(is_sound(grammar, table), True)
        self.assertIs(is_full(grammar, table), True)
        turned = with_item(table[0], 1800, ((None, ("reduce", 0)),))
        self.assertIs(is_sound(grammar, (turned, table[1])), False)


class Fullness(unittest.TestCase):
    def test_plain(self):
        seen = {True: 0, False: 0}
        for grammar, table in any_tables(311, 80):
            if len(table[0]) < 16:
                right = is_plain_full(grammar, table)
                self.assertIs(is_full(grammar, table), right, (grammar, table))
                seen[right] += 1
        self.assertGreater(min(seen.values()), 90)

    def test_by_hand(self):
        self.assertIs(is_full(HG, HT), True)
        # The default of state 3 would let b be shifted behind b.
        turned = (with_item(HA, 4, (("b", ("shift", 3)), (None, ("reduce", 0)))), HT[1])
        self.assertIs(is_full(HG, turned), False)
        self.assertFalse(is_plain_full(HG, turned))

    def test_hundred_reductions(self):
        for many, full in ((98, False), (99, False), (100, False), (101, False), (102, False)):
            grammar, table = counted(many)
            self.assertIs(is_full(grammar, table), full)
            self.assertIs(is_plain_full(grammar, table), full)
            # Refused at the end instead: open only if more than 100 reductions can be done.
            table = (table[0][:-1] + ((),), table[1])
            self.assertIs(is_full(grammar, table), many <= 100, many)
            self.assertIs(is_plain_full(grammar, table), many <= 100, many)
        self.assertIs(is_full(ENDLESS, table_by(ENDLESS, "lalr")), is_plain_full(ENDLESS, table_by(ENDLESS, "lalr")))

    def test_full_and_sound_ones_read_alike(self):
        rng = random.Random(312)
        seen = 0
        for grammar, table in any_tables(313, 120):
            if is_sound(grammar, table) and is_full(grammar, table):
                for row in rows_for(rng, grammar, 8):
                    told = parse(grammar, table, row)
                    self.assertEqual(parse_by_defaults(grammar, table, row)[:2], told[:2])
                    seen += told[0] == "refused"
        self.assertGreater(seen, 300)


class Defaults(unittest.TestCase):
    def test_plain(self):
        ties = 0
        for grammar, table in any_tables(314, 100):
            told = with_defaults(grammar, table)
            self.assertEqual(list(told[2]), plain_defaults(table))
            self.assertIs(type(told[2]), tuple)
            self.assertEqual(told[1], table[1])
            for row, kept, default in zip(table[0], told[0], told[2]):
                self.assertEqual(kept, tuple(entry for entry in row if entry[1] != ("reduce", default)))
                rules = [deed[1] for _, deed in row if deed[0] == "reduce"]
                ties += default >= 0 and len({rule for rule in rules if rules.count(rule) == rules.count(default)}) > 1
        self.assertGreater(ties, 30)

    def test_by_hand(self):
        row = (("a", ("reduce", 1)), ("b", ("reduce", 0)), (None, ("reduce", 1)))
        self.assertEqual(with_defaults(HG, ((row,), ((),))), (((("b", ("reduce", 0)),),), ((),), (1,)))
        row = (("a", ("reduce", 1)), ("b", ("reduce", 0)), (None, ("refuse",)))
        self.assertEqual(with_defaults(HG, ((row,), ((),)))[2], (0,))
        self.assertEqual(with_defaults(HG, (((("a", ("refuse",)), (None, ("accept",))),), ((),)))[2], (-1,))
        self.assertEqual(with_defaults(HG, (((),), ((),))), (((),), ((),), (-1,)))


class Refusals(unittest.TestCase):
    def test_kinds(self):
        state = lambda value: type(value) is int and 0 <= value < 5
        token = lambda value: value is None or type(value) is str and value in HG[0]
        errors = (InvalidGrammar, InvalidTable, InvalidNumber, InvalidToken)
        check_refusals(self, deed_of, (HG, HT, 0, "a"), errors, (nothing, nothing, state, token))
        errors = (InvalidGrammar, InvalidTable, InvalidNumber, InvalidSymbols)
        check_refusals(self, goto_of, (HG, HT, 0, "S"), errors, (nothing, nothing, state, is_nonterminal_in(HG)))
        for function in (is_sound, is_full, with_defaults):
            check_refusals(self, function, (HG, HT), (InvalidGrammar, InvalidTable), (nothing, nothing))
        check_refusals(self, is_table, (HG, HT), (InvalidGrammar, None), (nothing, nothing))
        errors = (InvalidGrammar, InvalidTable, InvalidTable)
        empty = lambda value: value == ((),)
        check_refusals(self, table_of, (HG, HT[1], HA), errors, (nothing, empty, empty))
        for bad in (5, -1, True, None, "0"):
            self.assertIs(type(error_of(deed_of, HG, HT, bad, "z")), InvalidNumber)
            self.assertIs(type(error_of(goto_of, HG, HT, bad, "z")), InvalidNumber)
        self.assertIs(type(error_of(deed_of, HG, HT, 0, "S")), InvalidToken)
        self.assertIs(type(error_of(goto_of, HG, HT, 0, "a")), InvalidSymbols)
        self.assertIs(type(error_of(goto_of, HG, HT, 0, None)), InvalidSymbols)

    def test_steady(self):
        pairs = [(HG, HT), (RINGS, table_by(RINGS, "lalr")), (BARE, table_by(BARE, "slr")), (MIRROR, table_by(MIRROR, "lr1"))]
        for function in (is_table, is_sound, is_full, with_defaults):
            check_steady(self, function, pairs + [(FL, table_by(FL, "slr")), (EG, table_by(EG, "joined"))])
        check_steady(self, deed_of, [pair + (0, None) for pair in pairs])
        check_steady(self, goto_of, [pair + (0, "S") for pair in pairs])
        check_steady(self, table_of, [(HG, HT[1], HA), (G,) + table_by(G, "slr")[::-1]])


if __name__ == "__main__":
    unittest.main()
