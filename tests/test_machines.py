import random
import unittest

from shiftroads.errors import InvalidMachine, InvalidNumber, InvalidRegex, InvalidText, TooMany
from shiftroads.machines import is_word_machine, least_machine, parting_word, run_word, word_machine
from shiftroads.regexes import read_regex
from tests.makers import all_words, bent, check_refusals, error_of, frozen, junk, nothing, random_regex
from tests.makers import words_and_beginnings
from tests.test_regexes import ALL, deep_trees, is_character_row, is_plain_regex

M = ((-1, (("a", 1), ("b", 2))), (0, (("b", 1),)), (1, ()))


def is_plain_machine(value):
    """A second way to tell machines."""
    if type(value) is not tuple or not 1 <= len(value) <= 400:
        return False
    for state in value:
        if type(state) is not tuple or len(state) != 2 or type(state[0]) is not int or not -1 <= state[0] <= 39:
            return False
        if type(state[1]) is not tuple:
            return False
        for way in state[1]:
            if type(way) is not tuple or len(way) != 2 or type(way[1]) is not int or not 0 <= way[1] < len(value):
                return False
            if not is_character_row(way[0], 96) or way[0] == "" or list(way[0]) != sorted(set(way[0])):
                return False
        letters = "".join(way[0] for way in state[1])
        if len(set(letters)) < len(letters) or len({way[1] for way in state[1]}) < len(state[1]):
            return False
        if list(state[1]) != sorted(state[1]):
            return False
    return True


def row_of(machine, state):
    return {letter: target for letters, target in machine[state][1] for letter in letters}


def plain_run(machine, state, word):
    for letter in word:
        state = row_of(machine, state).get(letter)
        if state is None:
            return None
    return state


def outcome(machine, state, word):
    """What a word tells of a state."""
    end = plain_run(machine, state, word)
    return None if end is None else machine[end][0]


def machine_of(rows):
    """A machine of pairs of a rule and a dict from letters to states."""
    states = []
    for rule, row in rows:
        ways = {}
        for letter in sorted(row):
            ways[row[letter]] = ways.get(row[letter], "") + letter
        states.append((rule, tuple(sorted((letters, state) for state, letters in ways.items()))))
    return tuple(states)


def random_machine(rng, most, letters="abc"):
    count = rng.randint(1, most)
    rows = []
    for _ in range(count):
        row = {letter: rng.randrange(count) for letter in letters if rng.random() < 0.7}
        rows.append((rng.choice((-1, -1, 0, 1)), row))
    return machine_of(rows)


def doubled(rng, machine):
    """A machine of the same meaning: each state twice, in a random order but for the first one."""
    count = len(machine)
    places = list(range(1, 2 * count))
    rng.shuffle(places)
    places = [0] + places
    rows = [None] * (2 * count)
    for state in range(2 * count):
        row = row_of(machine, state % count)
        rows[places[state]] = (
            machine[state % count][0], {letter: places[row[letter] + rng.choice((0, count))] for letter in row},
        )
    return machine_of(rows)


def plain_parting(machine, one, other):
    """The length of a shortest parting word by pairs of states, or None: by looking at longer and longer words."""
    pairs = {(one, other)}
    seen = set()
    length = 0
    while pairs:
        seen |= pairs
        nexts = set()
        for left, right in pairs:
            if (left is None) != (right is None) or left is not None and machine[left][0] != machine[right][0]:
                return length
            if left is not None:
                rows = row_of(machine, left), row_of(machine, right)
                nexts |= {(rows[0].get(letter), rows[1].get(letter)) for letter in set(rows[0]) | set(rows[1])}
        pairs = nexts - seen
        length += 1
    return None


class WordMachines(unittest.TestCase):
    def test_ordinary(self):
        rng = random.Random(81)
        self.assertIs(is_word_machine(M), True)
        for _ in range(200):
            machine = random_machine(rng, 6)
            self.assertIs(is_word_machine(machine), True)
            self.assertTrue(is_plain_machine(machine))

    def test_edges(self):
        for count, told in ((1, True), (400, True), (401, False)):
            self.assertIs(is_word_machine(tuple((0, (("a", at),)) for at in range(count))), told)
        self.assertFalse(is_word_machine(()))
        for rule, told in ((-1, True), (0, True), (39, True), (40, False), (-2, False), (True, False), (None, False)):
            self.assertIs(is_word_machine(((rule, ()),)), told)
        self.assertTrue(is_word_machine(((0, ((ALL, 0),)),)))
        self.assertFalse(is_word_machine(((0, ((ALL + "~", 0),)),)))

    def test_by_hand(self):
        for ways, told in (
            ((("a", 0),), True), ((("a", 1),), True), ((("a", 2),), False), ((("a", -1),), False), ((("a", True),), False),
            ((("ab", 0), ("c", 1)), True), ((("ab", 0), ("b", 1)), False), ((("a", 0), ("b", 0)), False),
            ((("b", 0), ("a", 1)), False), ((("a", 1), ("b", 0)), True), ((("ba", 0),), False), ((("", 0),), False),
            ((("%", 0),), False), ((("\t", 0),), False), (([["a", 0]]), False), ((["a", 0],), False), ((("a", 0, 0),), False),
            ((("a",),), False), ((("\n", 0), (" ", 1)), True), (None, False), ((("a", "0"),), False),
        ):
            self.assertIs(is_word_machine(((0, ways), (1, ()))), told, ways)

    def test_bent(self):
        rng = random.Random(82)
        for machine in [M] + [random_machine(rng, 3) for _ in range(15)]:
            for value in bent(machine):
                self.assertIs(is_word_machine(value), is_plain_machine(value), value)

    def test_other_kinds(self):
        for value in junk():
            self.assertIs(is_word_machine(value), False)


class Making(unittest.TestCase):
    def test_meaning(self):
        rng = random.Random(83)
        for _ in range(300):
            trees = tuple(random_regex(rng, "ab", 3) for _ in range(rng.randint(1, 3)))
            told = [words_and_beginnings(tree, 5) for tree in trees]
            for machine in (word_machine(trees), least_machine(word_machine(trees))):
                self.assertTrue(is_plain_machine(machine))
                for word in all_words("abc", 4) + ["ababa", "aaaaa", "bbaab"]:
                    end = plain_run(machine, 0, word)
                    self.assertEqual(end is not None, any(word in begins for _, begins in told), (trees, word))
                    if end is not None:
                        rules = [rule for rule, (words, _) in enumerate(told) if word in words]
                        self.assertEqual(machine[end][0], rules[0] if rules else -1)

    def test_first_rule(self):
        trees = (read_regex("if"), read_regex("[a-z]+"), read_regex("if|fi"))
        machine = word_machine(trees)
        for word, rule in (("if", 0), ("fi", 1), ("i", 1), ("iff", 1)):
            self.assertEqual(machine[run_word(machine, 0, word)][0], rule)
        self.assertIsNone(run_word(machine, 0, "I"))

    def test_like_meanings(self):
        for texts in (
            ("(a|b)*", "(a*b*)*", "[ab]*", "((a|b)+)?", "(b*a*)*[ab]?"), ("a+", "aa*", "a*a", "(a+)+", "a(a?)*"),
            ("", "()", "(|)", "()*", "a?"[:0]), ("a|b|c", "[a-c]", "(c|b)|a"), ("ab|ac", "a[bc]", "a(b|c)", "(a)(c|b)"),
            (".", "[^\\n]", "[ -~]"),
        ):
            least = {least_machine(word_machine((read_regex(text),))) for text in texts}
            self.assertEqual(len(least), 1)

    def test_great_machines(self):
        for count in (399, 400):
            tree = ("row", (("letters", "a"),) * count)
            if count == 399:
                machine = least_machine(word_machine((tree,)))
                self.assertEqual(len(machine), 400)
                self.assertEqual(machine[399], (0, ()))
            else:
                error = error_of(word_machine, (tree,))
                self.assertIs(type(error), TooMany)
                self.assertEqual(error.limit, 400)
        self.assertEqual(len(least_machine(word_machine((read_regex("[ab]*a" + "[ab]" * 7),)))), 256)
        self.assertIs(type(error_of(word_machine, (read_regex("[ab]*a" + "[ab]" * 8),))), TooMany)

    def test_forty_rules(self):
        texts = [first + second for first in "abcdefgh" for second in "vwxyz"]
        trees = tuple(read_regex(text) for text in texts)
        machine = least_machine(word_machine(trees))
        self.assertEqual([machine[run_word(machine, 0, text)][0] for text in texts], list(range(40)))
        self.assertIs(type(error_of(word_machine, trees + trees[:1])), InvalidRegex)
        self.assertIs(type(error_of(word_machine, ())), InvalidRegex)

    def test_deep_trees(self):
        for tree in deep_trees(40):
            machine = least_machine(word_machine((tree,)))
            self.assertTrue(is_plain_machine(machine))
            self.assertIs(type(error_of(word_machine, (("some", tree),))), InvalidRegex)

    def test_refused(self):
        def are_trees(value):
            return type(value) is tuple and 1 <= len(value) <= 40 and all(is_plain_regex(tree) for tree in value)

        trees = (read_regex("a"), read_regex("b*"))
        before = frozen(trees)
        check_refusals(self, word_machine, (trees,), (InvalidRegex,), (are_trees,))
        self.assertEqual(frozen(trees), before)
        for value in (trees[0], list(trees), trees + (None,), trees + (("or", ()),), [trees[0]]):
            self.assertIs(type(error_of(word_machine, value)), InvalidRegex)


class LeastMachines(unittest.TestCase):
    def test_random(self):
        rng = random.Random(84)
        for _ in range(300):
            machine = random_machine(rng, 7)
            least = least_machine(machine)
            self.assertTrue(is_plain_machine(least))
            for word in all_words("abc", 4):
                self.assertEqual(outcome(machine, 0, word), outcome(least, 0, word))
            for one in range(len(least)):
                for other in range(one):
                    self.assertIsNotNone(plain_parting(least, one, other))
            met = [0]
            for state in range(len(least)):
                self.assertLess(state, len(met))
                row = row_of(least, met[state])
                met += [row[letter] for at, letter in enumerate(sorted(row)) if row[letter] not in met
                        and row[letter] not in [row[ahead] for ahead in sorted(row)[:at]]]
            self.assertEqual(met, list(range(len(least))))
            self.assertEqual(least_machine(least), least)
            self.assertEqual(least_machine(doubled(rng, machine)), least)

    def test_states_without_rules_behind_them_stay(self):
        machine = ((0, (("a", 1), ("b", 2))), (-1, (("a", 2),)), (-1, (("a", 1),)), (5, ()))
        self.assertEqual(least_machine(machine), ((0, (("ab", 1),)), (-1, (("a", 1),))))
        machine = ((-1, (("a", 1),)), (-1, ()))
        self.assertEqual(least_machine(machine), machine)
        self.assertEqual(least_machine(((-1, (("ab", 0),)),)), ((-1, (("ab", 0),)),))

    def test_ways_are_joined(self):
        machine = ((-1, (("b", 1), ("d", 0), ("z", 2))), (0, ()), (0, ()))
        self.assertEqual(least_machine(machine), ((-1, (("bz", 1), ("d", 0))), (0, ())))
        machine = ((-1, (("b", 1), ("cz", 2))), (0, ()), (1, ()))
        self.assertEqual(least_machine(((-1, (("a", 3),)),) + ((0, ()), (1, ())) + machine[:1])[1], (-1, (("b", 2), ("cz", 3))))

    def test_four_hundred(self):
        chain = tuple((-1, (("a", at + 1),)) for at in range(399)) + ((0, ()),)
        self.assertEqual(least_machine(chain), chain)
        ring = tuple((0, (("ab", (at + 1) % 400),)) for at in range(400))
        self.assertEqual(least_machine(ring), ((0, (("ab", 0),)),))
        wide = tuple((0 if at else 1, tuple(sorted((sign, (at + more) % 400) for more, sign in enumerate(ALL))))
                     for at in range(400))
        self.assertEqual(len(least_machine(wide)), 400)

    def test_refused(self):
        check_refusals(self, least_machine, (M,), (InvalidMachine,), (nothing,))
        before = frozen(M)
        first = least_machine(M)
        least_machine(((0, ()),))
        self.assertEqual(least_machine(M), first)
        self.assertEqual(frozen(M), before)


class Running(unittest.TestCase):
    def test_runs(self):
        rng = random.Random(85)
        for _ in range(60):
            machine = random_machine(rng, 5)
            for state in range(len(machine)):
                for word in all_words("abc", 3):
                    self.assertEqual(run_word(machine, state, word), plain_run(machine, state, word))
        ring = tuple((0, (("ab", (at + 1) % 7),)) for at in range(7))
        self.assertEqual(run_word(ring, 0, "ab" * 2000), 4000 % 7)
        self.assertIs(type(error_of(run_word, ring, 0, "ab" * 2000 + "a")), InvalidText)
        self.assertIsNone(run_word(M, 2, "a"))
        self.assertEqual(run_word(M, 2, ""), 2)

    def test_refused(self):
        fine = (nothing, lambda value: type(value) is int and 0 <= value < 3, lambda value: is_character_row(value, 4000))
        check_refusals(self, run_word, (M, 0, "ab"), (InvalidMachine, InvalidNumber, InvalidText), fine)
        for state in (3, -1, True, False, "0"):
            self.assertIs(type(error_of(run_word, M, state, "a")), InvalidNumber)
        for word in ("a\t", "%", "\u00e9"):
            self.assertIs(type(error_of(run_word, M, 0, word)), InvalidText)


class Parting(unittest.TestCase):
    def test_shortest(self):
        rng = random.Random(86)
        alike = 0
        for _ in range(150):
            machine = random_machine(rng, 6)
            if rng.random() < 0.4:
                machine = doubled(rng, machine)
            for one in range(len(machine)):
                for other in range(len(machine)):
                    word = parting_word(machine, one, other)
                    self.assertEqual(None if word is None else len(word), plain_parting(machine, one, other))
                    alike += word is None and one != other
                    if word is not None:
                        self.assertNotEqual(outcome(machine, one, word), outcome(machine, other, word))
        self.assertGreater(alike, 100)

    def test_by_hand(self):
        self.assertEqual(parting_word(M, 0, 1), "")
        self.assertIsNone(parting_word(M, 1, 1))
        machine = ((0, (("a", 1),)), (0, ()), (0, (("a", 2),)))
        self.assertEqual(parting_word(machine, 0, 1), "a")
        self.assertEqual(parting_word(machine, 0, 2), "aa")
        chain = tuple((0, (("a", at + 1),)) for at in range(399)) + ((0, ()),)
        self.assertEqual(parting_word(chain, 0, 1), "a" * 399)

    def test_refused(self):
        def is_state(value):
            return type(value) is int and 0 <= value < 3

        errors = (InvalidMachine, InvalidNumber, InvalidNumber)
        check_refusals(self, parting_word, (M, 0, 1), errors, (nothing, is_state, is_state))
        for state in (3, -1, True, False):
            self.assertIs(type(error_of(parting_word, M, state, 0)), InvalidNumber)
            self.assertIs(type(error_of(parting_word, M, 0, state)), InvalidNumber)


if __name__ == "__main__":
    unittest.main()
