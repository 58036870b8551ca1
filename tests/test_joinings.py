import random
import unittest

from shiftroads.canonicals import canonical_states
from shiftroads.errors import InvalidGrammar
from shiftroads.joinings import clashes_anew, far_joining, full_joining, is_joining
from tests.makers import APART, C, EG, F, FC, FL, G, GG, LOST, PLUS, RINGS, STARS, THREE, all_classes, bent, check_refusals
from tests.makers import check_steady, check_too_many, error_of, fan, flat, groups_by_core, is_plain_joining, junk, nested
from tests.makers import nothing, plain_canonical, random_grammars


def grammars(seed, count):
    return [EG, G, F, C, FL, FC, GG, RINGS, LOST, STARS, APART, THREE, PLUS] + random_grammars(seed, count)


def random_apart(rng):
    """A grammar in which A and B are told apart by what is ahead of them, or not."""
    rules = {(name, ("c",) * many): True for many in [rng.choice((1, 1, 2))] for name in "AB"}
    for _ in range(rng.randint(5, 9)):
        rules["S", (rng.choice("abfg"), rng.choice("AB"), rng.choice("deg"))] = True
    if rng.random() < 0.3:
        rules["A", ("c", "c")] = True
    if rng.random() < 0.3:
        rules["B", ("c", "A")] = True
    return (tuple("abcdefg"), "S", (("S", ("a",)),) + tuple(rules))


def are_numbers(value, count):
    if type(value) is not tuple or not all(type(row) is tuple for row in value):
        return False
    return all(type(number) is int and 0 <= number < count for row in value for number in row)


class Joinings(unittest.TestCase):
    def test_singles_and_full(self):
        anew = 0
        for grammar in grammars(141, 150):
            states, ways = plain_canonical(grammar)
            singles = tuple((number,) for number in range(len(states)))
            self.assertIs(is_joining(grammar, singles), True)
            full = tuple(sorted(tuple(row) for row in groups_by_core(states)))
            self.assertEqual(full_joining(grammar), full)
            right = is_plain_joining(grammar, states, ways, full)
            self.assertIs(is_joining(grammar, full), right)
            self.assertIs(clashes_anew(grammar), not right)
            anew += not right
        self.assertGreater(anew, 4)

    def test_all_classes(self):
        rng = random.Random(142)
        seen = {True: 0, False: 0}
        for grammar in grammars(143, 100) + [random_apart(rng) for _ in range(80)]:
            states, ways = plain_canonical(grammar)
            groups = groups_by_core(states)
            if max(len(group) for group in groups) > 4 or sum(len(group) > 1 for group in groups) > 5:
                continue
            choices = all_classes(groups)
            rng.shuffle(choices)
            for value in choices[:30]:
                right = is_plain_joining(grammar, states, ways, value)
                self.assertIs(is_joining(grammar, value), right, (grammar, value))
                seen[right] += 1
        self.assertGreater(min(seen.values()), 300)

    def test_bent(self):
        for grammar in (EG, APART, THREE):
            states, ways = plain_canonical(grammar)
            for start in (full_joining(grammar), far_joining(grammar), tuple((number,) for number in range(len(states)))):
                for value in bent(start):
                    right = are_numbers(value, len(states)) and is_plain_joining(grammar, states, ways, value)
                    self.assertIs(is_joining(grammar, value), right, value)

    def test_unlike_cores(self):
        states, ways = plain_canonical(APART)
        singles = tuple((number,) for number in range(len(states)))
        for one in range(len(states)):
            for other in range(one):
                value = tuple(sorted([(number,) for number in range(len(states)) if number not in (one, other)] + [(other, one)]))
                self.assertIs(is_joining(APART, value), is_plain_joining(APART, states, ways, value))
        self.assertFalse(is_joining(APART, ((0, 1),) + singles[2:]))

    def test_targets_in_two_classes(self):
        # Both states behind a and b have the core of c, and each leads on by c.
        grammar = (
            ("a", "b", "c", "d", "e"), "S",
            (("S", ("a", "A", "d")), ("S", ("b", "A", "e")), ("A", ("c", "c"))),
        )
        states, ways = plain_canonical(grammar)
        pairs = [row for row in groups_by_core(states) if len(row) == 2]
        self.assertEqual(len(pairs), 2)
        rest = [(number,) for number in range(len(states))]
        for joined, right in ((pairs, True), (pairs[:1], False), (pairs[1:], True)):
            value = [row for row in rest if not any(row[0] in pair for pair in joined)] + [tuple(pair) for pair in joined]
            self.assertIs(is_joining(grammar, tuple(sorted(value))), right)
            self.assertIs(is_plain_joining(grammar, states, ways, tuple(sorted(value))), right)

    def test_any_values(self):
        for value in junk() + [((0,),), ((0, 1, 2, 3, 4),), ((),), tuple([(0,)] * 20000), ((0,) * 20000,), nested(99)]:
            self.assertIs(is_joining(EG, value), False)
        self.assertTrue(is_joining(EG, ((0,), (1,), (2,), (3,), (4,))))
        for value in (
            ((1,), (0,), (2,), (3,), (4,)), ((False,), (1,), (2,), (3,), (4,)), ((0,), (1,), (2,), (3,)), [(0,), (1,), (2,), (3,), (4,)],
            ((0,), (1,), (2,), (3,), (4,), (5,)), ((0,), (1,), (2,), (3,), (4,), ()), ((), (0,), (1,), (2,), (3,), (4,)),
            ((0,), (0,), (1,), (2,), (3,), (4,)), ([0], (1,), (2,), (3,), (4,)), ((0,), (1,), (2,), (3,), (-1,)), ((0, 0), (1,), (2,), (3,), (4,)),
        ):
            self.assertIs(is_joining(EG, value), False, value)


    def test_classes_not_ascending(self):
        for grammar in (FL, THREE, fan(2, 1)):
            told = far_joining(grammar)
            turned = tuple(sorted(row[::-1] for row in told))
            self.assertNotEqual(sorted(told), list(turned))
            self.assertIs(is_joining(grammar, told), True)
            self.assertIs(is_joining(grammar, turned), False)
            self.assertIs(is_joining(grammar, told[::-1]), False)
            self.assertIs(is_joining(grammar, ((),) + told), False)
            self.assertIs(is_joining(grammar, tuple(row + row[:1] for row in told)), False)


class FarJoinings(unittest.TestCase):
    def test_far(self):
        rng = random.Random(144)
        between = behind = 0
        for grammar in grammars(145, 100) + [random_apart(rng) for _ in range(250)]:
            states, ways = plain_canonical(grammar)
            told = far_joining(grammar)
            self.assertTrue(is_plain_joining(grammar, states, ways, told), grammar)
            self.assertTrue(is_joining(grammar, told))
            if not clashes_anew(grammar):
                self.assertEqual(told, full_joining(grammar))
                continue
            home = {number: place for place, row in enumerate(told) for number in row}
            groups = [sorted({home[number] for number in group}) for group in groups_by_core(states)]
            further = all_classes(groups)
            if len(further) > 3000:
                continue
            for rows in further:
                value = tuple(sorted(tuple(sorted(number for place in row for number in told[place])) for row in rows))
                if value != told:
                    self.assertFalse(is_plain_joining(grammar, states, ways, value), (grammar, told, value))
            between += len(full_joining(grammar)) < len(told) < len(states)
            behind += len(told) < len(states) and ("A", ("c", "c")) in grammar[2]
        self.assertGreater(between, 10)
        self.assertGreater(behind, 3)

    def test_by_hand(self):
        told = far_joining(THREE)
        self.assertEqual(sorted(len(row) for row in told if len(row) > 1), [2])
        self.assertEqual(len(told), len(canonical_states(THREE)) - 1)
        self.assertEqual(far_joining(FL), full_joining(FL))
        self.assertEqual(far_joining(APART), tuple((number,) for number in range(len(canonical_states(APART)))))

    def test_two_hundred(self):
        grammar = fan(9, 19)
        self.assertEqual(len(canonical_states(grammar)), 200)
        self.assertEqual(far_joining(grammar), full_joining(grammar))
        check_too_many(self, 200, far_joining, fan(9, 19, 1))
        check_too_many(self, 200, far_joining, fan(9, 219))
        check_too_many(self, 2000, far_joining, fan(9, 219, 1))
        self.assertEqual(len(far_joining(flat(200))), 200)
        check_too_many(self, 200, far_joining, flat(201))


class Refusals(unittest.TestCase):
    def test_kinds(self):
        for function in (full_joining, clashes_anew, far_joining):
            check_refusals(self, function, (FC,), (InvalidGrammar,), (nothing,))
            check_steady(self, function, [(FC,), (FL,), (THREE,)])
        check_refusals(self, is_joining, (FC, ()), (InvalidGrammar, None), (nothing, nothing))
        check_steady(self, is_joining, [(FC, full_joining(FC)), (FL, full_joining(FL)), (THREE, far_joining(THREE))])

    def test_too_many(self):
        grammar = fan(9, 219, 1)
        for value in ((), None, ((0,),)):
            check_too_many(self, 2000, is_joining, grammar, value)
        check_too_many(self, 2000, full_joining, grammar)
        check_too_many(self, 2000, clashes_anew, grammar)
        grammar = fan(9, 219)
        self.assertEqual(len(full_joining(grammar)), 248)
        self.assertIs(clashes_anew(grammar), False)
        self.assertIs(is_joining(grammar, full_joining(grammar)), True)
        self.assertIsNone(error_of(clashes_anew, fan(20, 40, 20)))


if __name__ == "__main__":
    unittest.main()
