import random
import unittest

from shiftroads.builds import built
from shiftroads.conflicts import conflicts, deeds_in, level_of, settled, settled_rows
from shiftroads.errors import InvalidGrammar, InvalidMachine, InvalidNumber, InvalidPrecedence, InvalidToken, InvalidWord
from shiftroads.errors import Open
from tests.makers import C, EG, F, FC, G, GG, LOST, PLUS, RINGS, SORTS, STARS, all_items, behind_item, bent, check_refusals
from tests.makers import check_steady, error_of, fan, frozen, is_plain_item, junk, letters_of, nothing, random_grammars
from tests.makers import right_side, token_key

PM = built(PLUS, "lalr")
PP = ((("left", ("plus",)), ("left", ("times",))), ())
# Written by hand, with states that no grammar would give.
ODD = (
    (
        ((-1, 1), (0, 3), (1, 3), (3, 1)), ((0, 1),), (), ((3, 1),),
    ),
    (
        (("E", 2), ("num", 1), ("plus", 0)), (), (("times", 3),), (("E", 3), ("left", 3)),
    ),
    (
        ((-1, ("num", None)), (0, ("num", "plus", None)), (1, ("left", None)), (3, ("plus",))), (), (), ((3, ()),),
    ),
)


def is_plain_machine(grammar, value):
    """A second way to tell machines."""
    symbols = sorted(set(grammar[0]) | set(letters_of(grammar)))
    if type(value) is not tuple or len(value) != 3 or not all(type(part) is tuple for part in value):
        return False
    if len({len(part) for part in value}) != 1 or not 1 <= len(value[0]) <= 2000:
        return False
    for state, ways, looks in zip(*value):
        if type(state) is not tuple or not all(is_plain_item(grammar, item) for item in state):
            return False
        if list(state) != sorted(set(state)) or type(ways) is not tuple or type(looks) is not tuple:
            return False
        for pair in ways + looks:
            if type(pair) is not tuple or len(pair) != 2:
                return False
        if not all(symbol in symbols and type(at) is int and 0 <= at < len(value[0]) for symbol, at in ways):
            return False
        names = [symbol for symbol, _ in ways]
        if names != sorted(set(names)):
            return False
        whole = [rule for rule, place in state if place == len(right_side(grammar, rule))]
        if [rule for rule, _ in looks] != whole or any(type(rule) is not int for rule, _ in looks):
            return False
        for _, lot in looks:
            if type(lot) is not tuple or not all(token is None or token in grammar[0] for token in lot):
                return False
            if list(lot) != sorted(set(lot), key=token_key):
                return False
    return True


def is_plain_precedence(grammar, value):
    """A second way to tell precedences."""
    if type(value) is not tuple or len(value) != 2 or type(value[0]) is not tuple or type(value[1]) is not tuple:
        return False
    if len(value[0]) > 40 or not all(type(pair) is tuple and len(pair) == 2 for pair in value[0] + value[1]):
        return False
    seen = []
    for side, tokens in value[0]:
        if side not in ("left", "right", "none") or type(tokens) is not tuple or not tokens:
            return False
        if not all(type(token) is str and token in grammar[0] for token in tokens) or list(tokens) != sorted(set(tokens)):
            return False
        seen += tokens
    if len(set(seen)) < len(seen):
        return False
    for rule, token in value[1]:
        if type(rule) is not int or not 0 <= rule < len(grammar[2]) or type(token) is not str or token not in seen:
            return False
    rules = [rule for rule, _ in value[1]]
    return rules == sorted(set(rules))


def random_precedence(rng, grammar):
    tokens = list(grammar[0])
    rng.shuffle(tokens)
    levels = []
    while tokens and rng.random() < 0.85:
        count = rng.randint(1, len(tokens))
        levels.append((rng.choice(("left", "right", "none")), tuple(sorted(tokens[:count]))))
        tokens = tokens[count:]
    known = [token for _, row in levels for token in row]
    rules = [rule for rule in range(len(grammar[2])) if known and rng.random() < 0.3]
    return (tuple(levels), tuple((rule, rng.choice(known)) for rule in rules))


def random_machine(rng, grammar):
    """A machine of a grammar that is put together without a plan."""
    count = rng.randint(1, 5)
    symbols = sorted(set(grammar[0]) | set(letters_of(grammar)))
    items = all_items(grammar)
    states, ways, looks = [], [], []
    for _ in range(count):
        state = tuple(item for item in items if rng.random() < 0.6)
        states.append(state)
        ways.append(tuple((symbol, rng.randrange(count)) for symbol in symbols if rng.random() < 0.6))
        whole = [rule for rule, place in state if behind_item(grammar, (rule, place)) == ()]
        looks.append(tuple((rule, tuple(one for one in grammar[0] + (None,) if rng.random() < 0.5)) for rule in whole))
    return (tuple(states), tuple(ways), tuple(looks))


def machines(seed, count):
    """Pairs of a grammar and of a machine of it."""
    rng = random.Random(seed)
    found = [(PLUS, ODD)] + [(grammar, built(grammar, sort)) for grammar in (G, F, C, GG, PLUS, RINGS, LOST) for sort in SORTS]
    for grammar in random_grammars(seed + 1, count):
        found.append((grammar, random_machine(rng, grammar)))
        found.append((grammar, built(grammar, rng.choice(SORTS))))
    return found


def plain_deeds(grammar, machine, state, token):
    """By the words of [35]."""
    deeds = [("shift",) for symbol, _ in machine[1][state] if symbol == token]
    for rule, lot in machine[2][state]:
        if token in lot:
            deeds.append(("accept",) if rule == -1 else ("reduce", rule))
    return tuple(sorted(deeds))


def plain_level(precedence, token):
    return {one: at for at, (_, row) in enumerate(precedence[0]) for one in row}.get(token)


def plain_rule_level(grammar, precedence, rule):
    marks = dict(precedence[1])
    tokens = [symbol for symbol in grammar[2][rule][1] if symbol in grammar[0]]
    return plain_level(precedence, marks.get(rule, tokens[-1] if tokens else None))


def plain_left(grammar, precedence, token, deeds):
    """By the words of [37]: the deeds that are left."""
    level = plain_level(precedence, token)
    beaten = set()
    for deed in deeds:
        if deed[0] == "reduce" and ("shift",) in deeds and level is not None:
            own = plain_rule_level(grammar, precedence, deed[1])
            if own is not None:
                side = precedence[0][level][0]
                greater = "reduce" if own > level else "shift" if own < level else {"left": "reduce", "right": "shift"}.get(side)
                beaten |= {"reduce": {("shift",)}, "shift": {deed}, None: {("shift",), deed}}[greater]
    return tuple(deed for deed in deeds if deed not in beaten)


def plain_rows(grammar, machine, precedence, in_order):
    """The rows of [88], or the state and the token of the first conflict that is open."""
    rows = []
    for state in range(len(machine[0])):
        row = []
        for token in grammar[0] + (None,):
            deeds = plain_deeds(grammar, machine, state, token)
            left = plain_left(grammar, precedence, token, deeds) if len(deeds) > 1 else deeds
            if len(left) > 1 and not in_order:
                return (state, token)
            order = sorted(left, key=lambda deed: (["accept", "shift", "reduce"].index(deed[0]), deed))
            deed = order[0] if order else ("refuse",)
            if deed == ("shift",):
                deed = ("shift", dict(machine[1][state])[token])
            if deeds:
                row.append((token, deed))
        rows.append(tuple(row))
    return tuple(rows)


class Deeds(unittest.TestCase):
    def test_deeds_in(self):
        for grammar, machine in machines(171, 40):
            for state in range(len(machine[0])):
                for token in grammar[0] + (None,):
                    told = deeds_in(grammar, machine, state, token)
                    self.assertEqual(told, plain_deeds(grammar, machine, state, token))
                    self.assertEqual(list(told), sorted(set(told)))

    def test_conflicts(self):
        kinds = {"accept": 0, "end": 0, "three": 0, "four": 0, "shift": 0, "reduce": 0}
        for grammar, machine in machines(172, 100):
            told = conflicts(grammar, machine)
            plain = [
                (state, token, plain_deeds(grammar, machine, state, token))
                for state in range(len(machine[0])) for token in grammar[0] + (None,)
            ]
            self.assertEqual(told, tuple(one for one in plain if len(one[2]) > 1))
            for _, token, deeds in told:
                kinds["accept"] += ("accept",) in deeds
                kinds["end"] += token is None
                kinds["three"] += len(deeds) == 3
                kinds["four"] += len(deeds) > 3
                kinds["shift"] += ("shift",) in deeds
                kinds["reduce"] += len([deed for deed in deeds if deed[0] == "reduce"]) > 1
        self.assertGreater(min(kinds.values()), 20)

    def test_by_hand(self):
        self.assertEqual(
            conflicts(PLUS, ODD),
            (
                (0, "num", (("accept",), ("reduce", 0), ("shift",))),
                (0, "plus", (("reduce", 0), ("reduce", 3), ("shift",))),
                (0, None, (("accept",), ("reduce", 0), ("reduce", 1))),
            ),
        )
        self.assertEqual(deeds_in(PLUS, ODD, 0, "left"), (("reduce", 1),))
        self.assertEqual(deeds_in(PLUS, ODD, 0, "right"), ())
        self.assertEqual(deeds_in(PLUS, ODD, 3, "left"), (("shift",),))
        self.assertEqual(deeds_in(PLUS, ODD, 1, None), ())
        self.assertEqual(conflicts(EG, built(EG, "slr")), ())
        self.assertEqual(len(conflicts(PLUS, PM)), 4)
        rings = conflicts(RINGS, built(RINGS, "slr"))
        self.assertIn(("accept",), [deed for _, token, deeds in rings if token is None for deed in deeds])


class Settling(unittest.TestCase):
    def test_levels(self):
        rng = random.Random(173)
        none = 0
        for grammar in [G, F, C, EG, GG, PLUS, STARS] * 5 + random_grammars(174, 80):
            precedence = random_precedence(rng, grammar)
            for rule in range(len(grammar[2])):
                told = level_of(grammar, precedence, rule)
                self.assertEqual(told, plain_rule_level(grammar, precedence, rule))
                none += told is None
            for rule in (-1, len(grammar[2]), True, None):
                self.assertIs(type(error_of(level_of, grammar, precedence, rule)), InvalidNumber)
        self.assertGreater(none, 100)

    def test_marks(self):
        levels = (("left", ("plus",)), ("right", ("left", "times")), ("none", ("num",)))
        self.assertEqual([level_of(PLUS, (levels, ()), rule) for rule in range(4)], [0, 1, None, 2])
        marks = ((0, "num"), (2, "plus"), (3, "times"))
        self.assertEqual([level_of(PLUS, (levels, marks), rule) for rule in range(4)], [2, 1, 0, 1])
        self.assertEqual([level_of(F, ((("left", ("b",)),), ()), rule) for rule in range(4)], [0, None, None, None])
        self.assertEqual([level_of(F, ((("left", ("b",)),), ((3, "b"),)), rule) for rule in range(4)], [0, None, None, 0])

    def test_settled(self):
        rng = random.Random(175)
        seen = [0, 0, 0, 0]
        for grammar, machine in machines(176, 150):
            for precedence in (random_precedence(rng, grammar), random_precedence(rng, grammar), ((), ())):
                told = settled(grammar, machine, precedence)
                plain = tuple(
                    (state, token, plain_left(grammar, precedence, token, deeds))
                    for state, token, deeds in conflicts(grammar, machine)
                )
                self.assertEqual(told, plain)
                for (_, _, left), (_, _, deeds) in zip(told, conflicts(grammar, machine)):
                    seen[min(len(left), 2)] += 1
                    seen[3] += len(left) < len(deeds) - 1
        self.assertGreater(min(seen), 20)

    def test_sides(self):
        machine = (((), ((3, 1),)), ((("num", 1),), (("num", 0),)), ((), ((3, ("num",)),)))
        for side, left in (("left", (("reduce", 3),)), ("right", (("shift",),)), ("none", ())):
            precedence = (((side, ("num",)),), ())
            self.assertEqual(settled(PLUS, machine, precedence), ((1, "num", left),))
            deed = {"left": ("reduce", 3), "right": ("shift", 0), "none": ("refuse",)}[side]
            for in_order in (True, False):
                self.assertEqual(
                    settled_rows(PLUS, machine, precedence, in_order), ((("num", ("shift", 1)),), (("num", deed),)),
                )
        tight = (("right", ("plus",)), ("right", ("num",)))
        self.assertEqual(settled(PLUS, machine, (tight, ((3, "plus"),))), ((1, "num", (("shift",),)),))
        self.assertEqual(settled(PLUS, machine, (tight[::-1], ((3, "plus"),))), ((1, "num", (("reduce", 3),)),))
        self.assertEqual(settled(PLUS, machine, (tight[:1], ((3, "plus"),))), ((1, "num", (("reduce", 3), ("shift",))),))
        self.assertEqual(settled(PLUS, machine, ((), ())), ((1, "num", (("reduce", 3), ("shift",))),))

    def test_all_meet_as_it_stands(self):
        # The shift is beaten by one reduction and beats another one all the same.
        grammar = (("a", "b", "c"), "S", (("S", ("a",)), ("S", ("b",)), ("S", ("c",)), ("S", ("S", "S"))))
        looks = ((0, ("b",)), (1, ("b",)), (2, ("b",)), (3, ("b",)))
        machine = ((((0, 1), (1, 1), (2, 1), (3, 2)),), ((("b", 0),),), (looks,))
        levels = (("left", ("a",)), ("none", ("b",)), ("left", ("c",)))
        self.assertEqual(settled(grammar, machine, (levels, ())), ((0, "b", (("reduce", 2), ("reduce", 3))),))
        self.assertEqual(settled(grammar, machine, (levels, ((3, "a"),))), ((0, "b", (("reduce", 2),)),))
        self.assertEqual(settled(grammar, machine, (levels[1:], ())), ((0, "b", (("reduce", 0), ("reduce", 2), ("reduce", 3))),))
        self.assertEqual(
            settled(grammar, machine, (levels[:2], ())), ((0, "b", (("reduce", 2), ("reduce", 3))),),
        )

    def test_rows(self):
        rng = random.Random(177)
        opened = refused = 0
        for grammar, machine in machines(178, 150):
            for precedence in (random_precedence(rng, grammar), random_precedence(rng, grammar), ((), ())):
                told = settled_rows(grammar, machine, precedence, True)
                self.assertEqual(told, plain_rows(grammar, machine, precedence, True))
                refused += any(deed == ("refuse",) for row in told for _, deed in row)
                plain = plain_rows(grammar, machine, precedence, False)
                error = error_of(settled_rows, grammar, machine, precedence, False)
                if plain and type(plain[0]) is int:
                    opened += 1
                    self.assertIs(type(error), Open)
                    self.assertEqual((error.state, error.token), plain)
                else:
                    self.assertEqual(settled_rows(grammar, machine, precedence, False), plain)
        self.assertGreater(opened, 50)
        self.assertGreater(refused, 20)

    def test_in_order(self):
        rows = settled_rows(PLUS, ODD, ((), ()), True)
        self.assertEqual(
            rows[0], (("left", ("reduce", 1)), ("num", ("accept",)), ("plus", ("shift", 0)), (None, ("accept",))),
        )
        self.assertEqual(rows[1:], ((), (("times", ("shift", 3)),), (("left", ("shift", 3)),)))
        error = error_of(settled_rows, PLUS, ODD, ((), ()), False)
        self.assertEqual((type(error), error.state, error.token), (Open, 0, "num"))
        table = settled_rows(PLUS, PM, PP, False)
        self.assertEqual(len(table), len(PM[0]))
        self.assertEqual(plain_rows(PLUS, PM, PP, False), table)
        error = error_of(settled_rows, PLUS, PM, (PP[0][:1], ()), False)
        self.assertIs(type(error), Open)
        self.assertEqual(error.token, "times")
        ends = (("a",), "S", (("S", ()), ("S", ("A",)), ("A", ())))
        error = error_of(settled_rows, ends, built(ends, "lr1"), ((), ()), False)
        self.assertEqual((type(error), error.state, error.token), (Open, 0, None))


class Refusals(unittest.TestCase):
    def test_machines(self):
        rng = random.Random(179)
        seen = {True: 0, False: 0}
        pairs = [(EG, built(EG, "slr")), (PLUS, ODD)] + [(one, random_machine(rng, one)) for one in random_grammars(180, 6)]
        for grammar, machine in pairs:
            values = bent(machine)
            rng.shuffle(values)
            for value in values[:1500]:
                right = is_plain_machine(grammar, value)
                seen[right] += 1
                self.assertIs(type(error_of(conflicts, grammar, value)), type(None) if right else InvalidMachine, value)
        self.assertGreater(min(seen.values()), 100)
        for value in junk():
            self.assertIs(type(error_of(conflicts, EG, value)), InvalidMachine)

    def test_bent_by_hand(self):
        states, ways, looks = built(EG, "slr")
        for value in (
            (states, ways, looks[:-1]), (states, ways[:-1], looks), (states[:-1], ways, looks), (states, ways), [states, ways, looks],
            (states, ways, looks[:1] + ((-1, (None,)),) + looks[2:]), (states, ways, looks[:1] + (((-1, (None, "b")),),) + looks[2:]),
            (states, ways, looks[:1] + (((-1, ("c", "b")),),) + looks[2:]), (states, ways, looks[:1] + (((-1, ("S",)),),) + looks[2:]),
            (states, ways, looks[:1] + ((),) + looks[2:]), (states, ways, looks[:1] + (((-1, (None,)), (0, ())),) + looks[2:]),
            (states, (ways[0][:2] + (("c", 5),),) + ways[1:], looks), (states, (ways[0][::-1],) + ways[1:], looks),
            (states, (ways[0][:2] + (("c", -1),),) + ways[1:], looks), (states, (ways[0] + (("c", 4),),) + ways[1:], looks),
            (states, (ways[0][:2] + (("c", True),),) + ways[1:], looks), (states, (ways[0][:2] + (("d", 3),),) + ways[1:], looks),
            (states, (ways[0][:2] + ((None, 3),),) + ways[1:], looks), ((states[0][::-1],) + states[1:], ways, looks),
            (states[:4] + (((0, 3),),), ways, looks), ((), (), ()),
        ):
            self.assertIs(type(error_of(conflicts, EG, value)), InvalidMachine, value)
        self.assertEqual(conflicts(EG, (states, (ways[0][:1],) + ways[1:], looks)), ())
        self.assertEqual(conflicts(EG, (((),), ((),), ((),))), ())

    def test_two_thousand(self):
        one = (((),), ((("b", 0),),), ((),))
        self.assertEqual(conflicts(EG, tuple(part * 2000 for part in one)), ())
        self.assertIs(type(error_of(conflicts, EG, tuple(part * 2001 for part in one))), InvalidMachine)
        grammar = fan(9, 219)
        self.assertEqual(conflicts(grammar, built(grammar, "lr1")), ())

    def test_precedences(self):
        rng = random.Random(181)
        seen = {True: 0, False: 0}
        for grammar in (EG, PLUS, FC):
            for _ in range(6):
                for value in bent(random_precedence(rng, grammar)):
                    right = is_plain_precedence(grammar, value)
                    seen[right] += 1
                    self.assertIs(type(error_of(level_of, grammar, value, 0)), type(None) if right else InvalidPrecedence, value)
        self.assertGreater(min(seen.values()), 100)
        left = ("left", ("plus",))
        for value in (
            ((left, left), ()), ((("left", ()),), ()), ((("up", ("plus",)),), ()), ((("left", ("times", "plus")),), ()),
            ((left,), ((0, "times"),)), ((left,), ((4, "plus"),)), ((left,), ((-1, "plus"),)), ((left,), ((1, "plus"), (0, "plus"))),
            ((left,), ((1, "plus"), (1, "plus"))), ((left,), ((True, "plus"),)), ((("left", ("E",)),), ()), ([left], ()), ((left,),),
            ((left,), ((0, None),)), ((("left", (None,)),), ()), (("left", ("plus",)), ()), ((("left", "plus"),), ()),
        ):
            self.assertIs(type(error_of(level_of, PLUS, value, 0)), InvalidPrecedence, value)
            self.assertIs(type(error_of(settled, PLUS, PM, value)), InvalidPrecedence)
            self.assertIs(type(error_of(settled_rows, PLUS, PM, value, None)), InvalidPrecedence)

    def test_forty_levels(self):
        names = fan(0, 0)[0]
        grammar = (names, "S", tuple(("S", (name,)) for name in names))
        levels = tuple(("left", (name,)) for name in names)
        marks = tuple((at, names[39 - at]) for at in range(40))
        self.assertEqual([level_of(grammar, (levels, marks), rule) for rule in range(40)], list(range(39, -1, -1)))
        self.assertIs(type(error_of(level_of, grammar, (levels + (("left", ("b",)),), ()), 0)), InvalidPrecedence)

    def test_kinds(self):
        token = lambda value: value is None or type(value) is str and value in PLUS[0]
        state = lambda value: type(value) is int and 0 <= value < 4
        errors = (InvalidGrammar, InvalidMachine, InvalidNumber, InvalidToken)
        check_refusals(self, deeds_in, (PLUS, ODD, 0, "plus"), errors, (nothing, nothing, state, token))
        check_refusals(self, conflicts, (PLUS, ODD), errors[:2], (nothing, nothing))
        errors = (InvalidGrammar, InvalidPrecedence, InvalidNumber)
        check_refusals(self, level_of, (PLUS, PP, 0), errors, (nothing, nothing, state))
        errors = (InvalidGrammar, InvalidMachine, InvalidPrecedence, InvalidWord)
        check_refusals(self, settled, (PLUS, ODD, PP), errors[:3], (nothing, nothing, nothing))
        fine = (nothing, nothing, nothing, lambda value: type(value) is bool)
        check_refusals(self, settled_rows, (PLUS, ODD, PP, True), errors, fine)
        for word in (0, 1, None, "True", ()):
            self.assertIs(type(error_of(settled_rows, PLUS, ODD, ((), ()), word)), InvalidWord)
        for bad in ("E", "b", (), ("plus",), 0, True):
            self.assertIs(type(error_of(deeds_in, PLUS, ODD, 0, bad)), InvalidToken)
        for bad in (4, -1, True, None):
            self.assertIs(type(error_of(deeds_in, PLUS, ODD, bad, "b")), InvalidNumber)

    def test_steady(self):
        check_steady(self, deeds_in, [(PLUS, ODD, 0, "num"), (PLUS, PM, 0, None), (EG, built(EG, "lr1"), 1, None)])
        check_steady(self, conflicts, [(PLUS, ODD), (PLUS, PM), (EG, built(EG, "lr1"))])
        check_steady(self, level_of, [(PLUS, PP, 0), (PLUS, PP, 3), (EG, ((), ()), 1)])
        check_steady(self, settled, [(PLUS, ODD, PP), (PLUS, PM, PP), (PLUS, PM, ((), ()))])
        check_steady(self, settled_rows, [(PLUS, ODD, PP, True), (PLUS, PM, PP, False), (PLUS, PM, ((), ()), True)])
        before = frozen(ODD)
        error_of(settled_rows, PLUS, ODD, ((), ()), False)
        self.assertEqual(frozen(ODD), before)


if __name__ == "__main__":
    unittest.main()
