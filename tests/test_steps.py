import random
import unittest

from shiftroads.errors import InvalidCosts, InvalidGrammar, InvalidSteps
from shiftroads.steps import steps_cost, steps_rows
from tests.makers import HG, bent, check_refusals, check_steady, error_of, flat, is_plain_name, junk, nothing

COSTS = ((5, 1), (2, 1000), 4)
STEPS = (("keep", "a"), ("put", "b"), ("leave", "a"), ("change", "a", "b"), ("leave", "b"), ("put", "a"))


def are_plain_steps(value):
    """A second way to tell steps."""
    if type(value) is not tuple or len(value) > 20000:
        return False
    for step in value:
        if type(step) is not tuple or not step or not all(is_plain_name(name, "small") for name in step[1:]):
            return False
        if not (step[0] in ("keep", "put", "leave") and len(step) == 2):
            if not (step[0] == "change" and len(step) == 3 and step[1] != step[2]):
                return False
    return True


def are_plain_costs(grammar, value):
    if type(value) is not tuple or len(value) != 3 or type(value[0]) is not tuple or type(value[1]) is not tuple:
        return False
    count = len(grammar[0])
    numbers = value[0] + value[1] + value[2:]
    return len(value[0]) == len(value[1]) == count and all(type(one) is int and 0 < one < 1001 for one in numbers)


def random_steps(rng, names, count):
    found = []
    for _ in range(count):
        one, other = rng.sample(names, 2)
        found.append(rng.choice((("keep", one), ("put", one), ("leave", one), ("change", one, other))))
    return tuple(found)


class Steps(unittest.TestCase):
    def test_by_hand(self):
        self.assertEqual(steps_rows(STEPS), (("a", "a", "a", "b"), ("a", "b", "b", "a")))
        self.assertEqual(steps_cost(HG, COSTS, STEPS), 1 + 2 + 4 + 1000 + 5)
        self.assertEqual(steps_rows(()), ((), ()))
        self.assertEqual(steps_cost(HG, COSTS, ()), 0)
        for step, pair, cost in (
            (("keep", "b"), (("b",), ("b",)), 0), (("put", "a"), ((), ("a",)), 5), (("leave", "b"), (("b",), ()), 1000),
            (("change", "b", "a"), (("b",), ("a",)), 4),
        ):
            self.assertEqual(steps_rows((step,)), pair)
            self.assertEqual(steps_cost(HG, COSTS, (step,)), cost)

    def test_any(self):
        rng = random.Random(351)
        for _ in range(300):
            names = rng.sample(("a", "b", "left", "tokens", "x1", "z" * 20), rng.randint(2, 6))
            steps = random_steps(rng, names, rng.randint(0, 9))
            before, behind = steps_rows(steps)
            # A row by which the steps go, one after the other.
            rest, made = list(before), []
            total = 0
            grammar = (tuple(sorted(names)), "S", (("S", ()),))
            costs = tuple(tuple(rng.randint(1, 1000) for _ in names) for _ in range(2)) + (rng.randint(1, 1000),)
            for step in steps:
                if step[0] != "put":
                    self.assertEqual(rest.pop(0), step[1])
                if step[0] != "leave":
                    made.append(step[2] if step[0] == "change" else step[1])
                at = grammar[0].index(step[1])
                total += {"keep": 0, "put": costs[0][at], "leave": costs[1][at], "change": costs[2]}[step[0]]
            self.assertEqual((rest, tuple(made)), ([], behind))
            self.assertEqual(steps_cost(grammar, costs, steps), total)

    def test_many(self):
        steps = (("put", "a"),) * 20000
        self.assertEqual(steps_rows(steps), ((), ("a",) * 20000))
        self.assertEqual(steps_cost(HG, COSTS, steps), 100000)
        self.assertIs(type(error_of(steps_rows, steps + steps[:1])), InvalidSteps)


class Refusals(unittest.TestCase):
    def test_bent_steps(self):
        seen = {True: 0, False: 0}
        for value in bent(STEPS):
            right = are_plain_steps(value)
            seen[right] += 1
            self.assertIs(type(error_of(steps_rows, value)), type(None) if right else InvalidSteps, value)
            told = error_of(steps_cost, HG, COSTS, value)
            known = right and all(name in HG[0] for step in value for name in step[1:])
            self.assertIs(type(told), type(None) if known else InvalidSteps, value)
        self.assertGreater(min(seen.values()), 20)
        for step in (
            ("keep",), ("change",), ("keep", "a", "b"), ("change", "a"), ("change", "a", "a"), ("change", "a", "b", "c"), ("put", "A"), ("put", None),
            ("drop", "a"), ("leave", ["a"]), ["keep", "a"], ("change", "a", "B"), ("Keep", "a"), (("keep",), "a"), (None, "a"), (), "keep",
        ):
            self.assertIs(type(error_of(steps_rows, (step,))), InvalidSteps, step)

    def test_bent_costs(self):
        seen = {True: 0, False: 0}
        for value in bent(COSTS):
            right = are_plain_costs(HG, value)
            seen[right] += 1
            self.assertIs(type(error_of(steps_cost, HG, value, ())), type(None) if right else InvalidCosts, value)
        self.assertGreater(min(seen.values()), 5)
        for bad in (0, 1001, -1, True, None, "1", (1,)):
            for value in (((bad, 1), (1, 1), 1), ((1, 1), (1, bad), 1), ((1, 1), (1, 1), bad)):
                self.assertIs(type(error_of(steps_cost, HG, value, ())), InvalidCosts)
        for good in (1, 1000):
            self.assertEqual(steps_cost(HG, ((good, good), (good, good), good), STEPS[1:3]), good + good)
        for value in (((1,), (1, 1), 1), ((1, 1), (1, 1, 1), 1), ((1, 1), (1, 1)), ([1, 1], (1, 1), 1), ((1, 1), (1, 1), 1, 1)):
            self.assertIs(type(error_of(steps_cost, HG, value, ())), InvalidCosts)
        wide = flat(3)
        self.assertEqual(steps_cost(wide, ((7,) * 40, (8,) * 40, 9), (("put", "a39"),)), 7)

    def test_kinds(self):
        fine = lambda value: value == ()
        check_refusals(self, steps_rows, (STEPS,), (InvalidSteps,), (fine,))
        errors = (InvalidGrammar, InvalidCosts, InvalidSteps)
        check_refusals(self, steps_cost, (HG, COSTS, STEPS), errors, (nothing, nothing, fine))
        for value in junk():
            if value != ():
                self.assertIs(type(error_of(steps_rows, value)), InvalidSteps)
        # Tokens that no grammar needs to have are fine as steps, but not as steps over a grammar.
        self.assertEqual(steps_rows((("change", "x", "y"),)), (("x",), ("y",)))
        for step in (("keep", "c"), ("put", "c"), ("leave", "c"), ("change", "c", "a"), ("change", "a", "c")):
            self.assertIs(type(error_of(steps_cost, HG, COSTS, (step,))), InvalidSteps)
            self.assertIs(type(error_of(steps_cost, HG, (), (step,))), InvalidCosts)

    def test_steady(self):
        check_steady(self, steps_rows, [(STEPS,), ((),), (STEPS[::-1],)])
        check_steady(self, steps_cost, [(HG, COSTS, STEPS), (HG, ((1, 1), (1, 1), 1), STEPS), (HG, COSTS, ())])


if __name__ == "__main__":
    unittest.main()
