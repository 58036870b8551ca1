"""What the document promises over the whole program: each sentence of [3], and the names of the interface."""

import importlib
import inspect
import random
import unittest

from shiftroads import errors
from shiftroads.attributes import is_one_walk, worths_of
from shiftroads.automata import state_by, states_of, valid_items, ways_of
from shiftroads.builds import built
from shiftroads.canonicals import canonical_states, valid_lots
from shiftroads.charts import chart, dead_end, takes
from shiftroads.checkpapers import judge_paper, opposite, paper_for
from shiftroads.checks import productive, reached, trimmed, useless_rules
from shiftroads.conflicts import conflicts
from shiftroads.errors import Endless, RoadError
from shiftroads.firsts import empty_nonterminals, first_terminals, is_sentence
from shiftroads.forests import forest, tree_at, tree_count, tree_number
from shiftroads.grammartexts import print_grammar, read_grammar
from shiftroads.items import closed, items_of
from shiftroads.joinings import clashes_anew, far_joining, full_joining
from shiftroads.languages import Language
from shiftroads.lookaheads import lalr_lots, slr_lots
from shiftroads.parsers import parse
from shiftroads.relations import relations, ring_tree
from shiftroads.sugar import plain_grammar, plain_tree, sweet_tree
from shiftroads.trees import is_tree, leaves_of
from tests.makers import all_rows, all_trees, contexts_up_to, error_of, frozen, junk, letters_of, plain_columns, plain_reads
from tests.makers import plain_worths, prefixes_up_to, random_drafts, random_grammars, random_scheme, table_by, words_up_to

INTERFACE = {
    "grammars": ("is_grammar value", "nonterminals_of grammar"),
    "trees": (
        "is_open_tree grammar symbol value", "is_tree grammar symbol value", "leaves_of grammar symbol tree",
        "parts_of grammar symbol tree",
    ),
    "firsts": ("empty_nonterminals grammar", "first_terminals grammar symbols", "is_sentence grammar row"),
    "drafts": ("is_draft value",),
    "grammartexts": ("print_grammar draft", "read_grammar text"),
    "sugar": (
        "plain_grammar draft", "rule_notes draft", "is_sweet_tree draft symbol value", "sweet_tree draft tree", "plain_tree draft sweet",
    ),
    "checks": (
        "productive grammar", "reached grammar", "ringed grammar", "left_corners grammar nonterminal", "useless_rules grammar",
        "trimmed grammar",
    ),
    "checkpapers": (
        "judge_paper grammar claim paper", "paper_for grammar claim", "opposite grammar claim", "ladder_tree grammar ladder nonterminal",
    ),
    "regexes": ("is_regex value", "read_regex text", "regex_ends tree text at"),
    "machines": (
        "is_word_machine value", "word_machine trees", "least_machine machine", "run_word machine state word",
        "parting_word machine one other",
    ),
    "lexers": ("Lexer rules", "Lexer.longest text at", "Lexer.tokens text", "place_of text at"),
    "items": (
        "items_of grammar", "closed grammar items", "moved grammar items symbol", "is_spine grammar value", "context_by grammar spine",
    ),
    "automata": (
        "states_of grammar", "ways_of grammar", "state_by grammar context", "valid_items grammar context",
        "spine_for grammar context item", "least_context grammar state",
    ),
    "follows": ("follow_lot grammar nonterminal",),
    "canonicals": ("canonical_states grammar", "canonical_ways grammar", "valid_lots grammar context"),
    "lookaheads": ("slr_lots grammar", "lalr_lots grammar"),
    "joinings": ("is_joining grammar value", "full_joining grammar", "clashes_anew grammar", "far_joining grammar"),
    "builds": ("built grammar sort", "built_joined grammar joining"),
    "moments": ("deeds_of grammar tree", "moment_of grammar tree number", "parting grammar one other"),
    "conflicts": (
        "deeds_in grammar machine state token", "conflicts grammar machine", "level_of grammar precedence rule",
        "settled grammar machine precedence", "settled_rows grammar machine precedence in_order",
    ),
    "conflictpapers": (
        "witness_along grammar context token deed", "is_witness grammar machine state token deed value",
        "paper_of grammar machine conflict",
    ),
    "tables": (
        "is_table grammar value", "table_of grammar ways rows", "deed_of grammar table state token", "goto_of grammar table state nonterminal",
        "is_sound grammar table", "is_full grammar table", "with_defaults grammar table",
    ),
    "parsers": (
        "parse grammar table row", "parse_by_defaults grammar table row", "expected grammar table row", "Parser grammar table",
        "Parser.trees", "Parser.feed token", "Parser.copy",
    ),
    "packing": (
        "pack_table grammar table", "unpack_table grammar packed", "packed_deed grammar packed state token",
        "packed_goto grammar packed state nonterminal",
    ),
    "steps": ("steps_rows steps", "steps_cost grammar costs steps"),
    "repairs": (
        "least_costs grammar costs row", "is_bound grammar costs row value", "repair grammar costs row", "complete grammar put row",
        "panic grammar put stops row",
    ),
    "charts": ("chart grammar row", "takes grammar row", "dead_end grammar row"),
    "forests": (
        "forest grammar row", "tree_count grammar row", "tree_at grammar row number", "tree_number grammar row tree", "some_trees grammar row",
    ),
    "attributes": (
        "is_scheme grammar value", "is_one_walk grammar scheme", "worths_of grammar scheme nonterminal tree leaves downs",
    ),
    "relations": ("relations grammar scheme", "ring_tree grammar scheme"),
    "edits": ("Edited grammar table row", "Edited.replace begin end tokens"),
    "languages": (
        "Language text rules sort in_order", "Language.tokens text", "Language.read text", "Language.sweet text", "Language.papers",
    ),
}


def grammars(seed, count=60):
    return random_grammars(seed, count)


def leaf_rows(trees):
    return [tuple(item for item in tree if type(item) is str) for tree in trees]


class Interface(unittest.TestCase):
    def test_names(self):
        for name, rows in INTERFACE.items():
            module = importlib.import_module(f"shiftroads.{name}")
            for row in rows:
                told, *arguments = row.split()
                if "." in told:
                    owner, method = told.split(".")
                    found = vars(getattr(module, owner))[method]
                    arguments = ["self"] + arguments
                else:
                    found = vars(module)[told]
                    self.assertEqual(found.__module__, module.__name__)
                self.assertEqual(list(inspect.signature(found).parameters), arguments, row)

    def test_any_values(self):
        # Whatever is handed in as all arguments, an error of the package is raised, or something is told of any value.
        for name, rows in INTERFACE.items():
            module = importlib.import_module(f"shiftroads.{name}")
            for row in rows:
                told, *arguments = row.split()
                if "." in told or told in ("unpack_table", "packed_deed", "packed_goto"):
                    continue
                for bad in junk():
                    error = error_of(getattr(module, told), *[bad] * len(arguments))
                    if error is not None:
                        self.assertIsInstance(error, RoadError, (row, bad))
                        self.assertIsInstance(error, ValueError)

    def test_all_errors_are_road_errors(self):
        self.assertTrue(issubclass(errors.RoadError, ValueError))
        for name in vars(errors):
            if not name.startswith("_"):
                self.assertTrue(issubclass(vars(errors)[name], errors.RoadError))


class Guarantees(unittest.TestCase):
    def test_01_sentences(self):
        for grammar in grammars(501):
            known = set(leaf_rows(all_trees(grammar, 7)[grammar[1]]))
            for row in all_rows(grammar[0], 3):
                told = is_sentence(grammar, row)
                self.assertEqual(told, row in words_up_to(grammar, 3)[grammar[1]])
                self.assertTrue(told or row not in known)
                self.assertEqual(takes(grammar, row), told)

    def test_02_first_terminals(self):
        rng = random.Random(502)
        for grammar in grammars(503):
            names = letters_of(grammar)
            for _ in range(4):
                symbols = tuple(rng.choice(list(grammar[0]) + names) for _ in range(rng.randint(0, 3)))
                more = (grammar[0], "Zz", grammar[2] + (("Zz", symbols),))
                begins = {item for column in chart_firsts(more, symbols) for item in column}
                self.assertEqual(set(first_terminals(grammar, symbols)), begins)
            words = words_up_to(grammar, 0)
            self.assertEqual(empty_nonterminals(grammar), tuple(name for name in names if () in words[name]))

    def test_03_texts(self):
        rng = random.Random(504)
        for draft in random_drafts(505, 60):
            text = print_grammar(draft)
            self.assertEqual(read_grammar(text), draft)
            loose = "".join(sign + rng.choice(("", " ", "\n", "# remark\n")) if sign in ",;=|" else sign for sign in text)
            self.assertEqual(read_grammar(loose), draft)

    def test_04_sweet_trees(self):
        for draft in random_drafts(506, 40):
            grammar = plain_grammar(draft)
            for name in [line[0] for line in draft[3]]:
                for tree in sorted(all_trees(grammar, 7)[name], key=repr)[:10]:
                    sweet = sweet_tree(draft, tree)
                    self.assertEqual(plain_tree(draft, sweet), tree)
                    self.assertEqual(leaf_rows([sweet]), leaf_rows([tree]))

    def test_05_claims(self):
        for grammar in grammars(507, 40):
            names = letters_of(grammar)
            claims = [(word, name) for word in ("productive", "empty", "reached", "ring") for name in names]
            claims += [("corner", name, symbol) for name in names for symbol in names + list(grammar[0])]
            for claim in claims:
                papers = [(one, paper_for(grammar, one)) for one in (claim, opposite(grammar, claim))]
                self.assertEqual(len([1 for _, paper in papers if paper is not None]), 1)
                for one, paper in papers:
                    self.assertEqual(judge_paper(grammar, one, paper), paper is not None)

    def test_06_trimmed(self):
        for grammar in grammars(508):
            less = trimmed(grammar)
            if less is None:
                self.assertEqual(words_up_to(grammar, 4)[grammar[1]], set())
                continue
            kept = [rule for rule in range(len(grammar[2])) if rule not in useless_rules(grammar)]
            trees = {tuple(item if type(item) is str else kept[item] for item in tree) for tree in all_trees(less, 7)[less[1]]}
            self.assertEqual(trees, set(all_trees(grammar, 7)[grammar[1]]))
            self.assertEqual(productive(less), tuple(letters_of(less)))
            self.assertTrue(set(letters_of(less)) <= set(reached(less)))

    def test_07_to_09_states(self):
        for grammar in grammars(509, 40):
            states, ways = states_of(grammar), ways_of(grammar)
            self.assertEqual(len(set(states)), len(states))
            for number, state in enumerate(states):
                self.assertEqual(closed(grammar, state), state)
                kernel = tuple(item for item in state if item[1] > 0 or number == 0 and item == (-1, 0))
                self.assertEqual(closed(grammar, kernel), state)
            valid = {}
            for context, state in contexts_up_to(ways, 2):
                self.assertEqual((state_by(grammar, context), valid_items(grammar, context)), (state, states[state]))
                self.assertEqual(valid.setdefault(state, valid_items(grammar, context)), valid_items(grammar, context))
            for context in all_rows(list(grammar[0]) + letters_of(grammar), 2):
                if state_by(grammar, context) is None:
                    self.assertEqual(valid_items(grammar, context), ())
            self.assertTrue(set(item for state in states for item in state) <= set(items_of(grammar)))

    def test_10_to_12_lots(self):
        for grammar in grammars(510, 40):
            states, ways = states_of(grammar), ways_of(grammar)
            lots = {}
            for context, state in contexts_up_to(ways, 3):
                for rule, place, lot in valid_lots(grammar, context):
                    lots.setdefault((state, rule, place), set()).update(lot)
            for state, (lalr, slr) in enumerate(zip(lalr_lots(grammar), slr_lots(grammar))):
                for (rule, lot), (_, wide) in zip(lalr, slr):
                    place = 1 if rule == -1 else len(grammar[2][rule][1])
                    self.assertTrue(set(lot) <= set(wide))
                    self.assertTrue(lots.get((state, rule, place), set()) <= set(lot))
            if not clashes_anew(grammar):
                self.assertEqual(far_joining(grammar), full_joining(grammar))
            for context in all_rows(list(grammar[0]) + letters_of(grammar), 2):
                told = valid_lots(grammar, context)
                self.assertTrue(told == () or told in canonical_states(grammar))

    def test_13_columns(self):
        rng = random.Random(511)
        for grammar in grammars(512):
            row = tuple(rng.choice(grammar[0]) for _ in range(rng.randint(0, 4)))
            self.assertEqual(chart(grammar, row), plain_columns(grammar, row))

    def test_14_numbers(self):
        endless = 0
        for grammar in grammars(513):
            for row in sorted(words_up_to(grammar, 3)[grammar[1]])[:4]:
                count = tree_count(grammar, row)
                if count is None:
                    endless += 1
                    self.assertIs(type(error_of(tree_at, grammar, row, 0)), Endless)
                    continue
                trees = [tree_at(grammar, row, number) for number in range(min(count, 30))]
                self.assertEqual([tree_number(grammar, row, tree) for tree in trees], list(range(len(trees))))
                self.assertEqual(len(set(trees)), len(trees))
                if count <= 30:
                    small = [tree for tree in all_trees(grammar, 6)[grammar[1]] if leaf_rows([tree]) == [row]]
                    self.assertTrue(set(small) <= set(trees))
        self.assertGreater(endless, 10)

    def test_15_refused(self):
        rows = 0
        for grammar in grammars(514, 120):
            # Useless rules can make a machine go on where no sentence does.
            grammar = trimmed(grammar) or grammar
            if trimmed(grammar) != grammar or conflicts(grammar, built(grammar, "lalr")):
                continue
            table = table_by(grammar, "lalr")
            begins = prefixes_up_to(grammar, 4)
            for row in all_rows(grammar[0], 3):
                told = parse(grammar, table, row)
                if told[0] == "refused":
                    self.assertEqual(told[1], dead_end(grammar, row))
                    self.assertIn(row[:told[1]], begins)
                    self.assertTrue(told[1] == len(row) or row[:told[1] + 1] not in begins)
                    rows += 1
        self.assertGreater(rows, 200)

    def test_16_and_17_rings(self):
        rng = random.Random(515)
        seen = {"ring": 0, "none": 0}
        for grammar in grammars(516, 200):
            scheme = random_scheme(rng, grammar, 2, rng.random() < 0.5)
            if type(error_of(relations, grammar, scheme)) is errors.TooMany:
                continue
            ring = ring_tree(grammar, scheme)
            for name, trees in all_trees(grammar, 6).items():
                for tree in sorted(trees, key=repr)[:5] if name not in grammar[0] else []:
                    leaves = (3,) * len(leaf_rows([tree])[0])
                    downs = (1,) * len(dict(zip(letters_of(grammar), scheme[0]))[name][1])
                    told = worths_of(grammar, scheme, name, tree, leaves, downs)
                    plain = plain_worths(grammar, scheme, tree, leaves, downs)
                    self.assertEqual(told[0], "ring" if plain is None else "worths")
                    if plain is None:
                        self.assertIsNotNone(ring)
                        reads = plain_reads(grammar, scheme, tree)
                        self.assertTrue(all(other in reads[one] for one, other in zip(told[1], told[1][1:] + told[1][:1])))
                    else:
                        self.assertEqual(told[1], plain)
            if is_one_walk(grammar, scheme):
                self.assertIsNone(ring)
            seen["none" if ring is None else "ring"] += 1
        self.assertGreater(min(seen.values()), 10)

    def test_18_and_19_languages(self):
        seen = {"none": 0, "some": 0}
        for draft in random_drafts(517, 120):
            rules = tuple((name, chr(ord("a") + at)) for at, name in enumerate(draft[0]))
            text = print_grammar(draft)
            if useless_rules(plain_grammar(draft)):
                continue
            language = Language(text, rules, "lalr", True)
            grammar = language.grammar
            for row in all_rows(draft[0], 2 if len(draft[0]) > 2 else 3):
                answer = language.read("".join(chr(ord("a") + draft[0].index(name)) for name in row))
                if language.clashes == ():
                    self.assertEqual(answer[0] == "tree", takes(grammar, row))
                if answer[0] == "tree":
                    self.assertTrue(is_tree(grammar, grammar[1], answer[1]))
                    self.assertEqual(leaves_of(grammar, grammar[1], answer[1]), row)
                    if language.clashes == ():
                        self.assertEqual(tree_count(grammar, row), 1)
                elif language.clashes == ():
                    going = [token for token in grammar[0] if dead_end(grammar, row[:answer[1]] + (token,)) in (None, answer[1] + 1)]
                    going += [None] if takes(grammar, row[:answer[1]]) else []
                    self.assertEqual(answer, ("refused", dead_end(grammar, row), tuple(going)))
            seen["some" if language.clashes else "none"] += 1
        self.assertGreater(min(seen.values()), 6)

    def test_forests_hold_just_the_trees(self):
        for grammar in grammars(518, 40):
            for row in all_rows(grammar[0], 2):
                self.assertEqual(forest(grammar, row) != (), takes(grammar, row))


def chart_firsts(grammar, symbols):
    """For each terminal with which a row of symbols goes on: that a beginning of it is one, by the open trees of [54]."""
    # Column 0 of the chart of the start (symbols,) has all items ahead of which nothing stands.
    column = chart((grammar[0], "Zz", grammar[2]), ())[0]
    rights = {-1: ("Zz",)}
    rights.update({rule: right for rule, (_, right) in enumerate(grammar[2])})
    return [{rights[rule][place]} for rule, place, _ in column if place < len(rights[rule]) and rights[rule][place] in grammar[0]]


class Steady(unittest.TestCase):
    def test_again_behind_others(self):
        rng = random.Random(519)
        rows = []
        for grammar in grammars(520, 12):
            row = tuple(rng.choice(grammar[0]) for _ in range(3))
            table = table_by(grammar, "lalr")
            scheme = random_scheme(rng, grammar, 1)
            for function, arguments in (
                (parse, (grammar, table, row)), (chart, (grammar, row)), (forest, (grammar, row)), (tree_count, (grammar, row)),
                (states_of, (grammar,)), (canonical_states, (grammar,)), (slr_lots, (grammar,)), (built, (grammar, "joined")),
                (relations, (grammar, scheme)), (ring_tree, (grammar, scheme)), (dead_end, (grammar, row)),
            ):
                rows.append((function, arguments, frozen(arguments), frozen(function(*arguments))))
        for _ in range(2):
            rng.shuffle(rows)
            for function, arguments, before, told in rows:
                self.assertEqual(frozen(function(*arguments)), told)
                self.assertEqual(frozen(arguments), before)


if __name__ == "__main__":
    unittest.main()
