import random
import unittest

from shiftroads.builds import built
from shiftroads.charts import dead_end, takes
from shiftroads.checks import useless_rules
from shiftroads.conflictpapers import is_witness, paper_of
from shiftroads.conflicts import conflicts, settled, settled_rows
from shiftroads.errors import BadGrammar, BadRegex, BadText, EmptyWord, InvalidDraft, InvalidRules, InvalidText, InvalidWord, Open
from shiftroads.errors import TooMany, UnknownNames, Useless
from shiftroads.forests import tree_count
from shiftroads.grammartexts import print_grammar, read_grammar
from shiftroads.languages import Language
from shiftroads.lexers import Lexer
from shiftroads.parsers import parse
from shiftroads.sugar import is_sweet_tree, plain_grammar, plain_tree, rule_notes, sweet_tree
from shiftroads.tables import table_of
from shiftroads.trees import is_tree, leaves_of
from tests.makers import SORTS, check_too_many, error_of, fan, frozen, junk, random_drafts, sentences_up_to

SUMS = "tokens num, plus; left plus; start S; S = S plus S | num;"
RULES = (("num", "[0-9]+"), ("plus", "\\+"), (None, " "))
LISTED = (
    "tokens comma, num, open, shut, dot, semi;\nstart S;\n"
    "S = open Item/comma* shut | semi dot+ ;\nItem = num dot? | S | dot num/semi+;\n"
)
LISTED_RULES = (("num", "[0-9]+"), ("comma", ","), ("open", "\\("), ("shut", "\\)"), ("dot", "\\."), ("semi", ";"), (None, "[ \n]+"))
DEEP = "tokens a; start S; S = T*; T = T1; " + " ".join(f"T{at} = T{at + 1};" for at in range(1, 20)) + " T20 = a;"
FIELDS = ["draft", "grammar", "lexer", "machine", "table", "clashes", "left"]


def lettered(draft):
    """Rules of a lexer by which each terminal of a draft is one letter, blanks being left out."""
    return tuple((name, chr(ord("a") + at)) for at, name in enumerate(draft[0])) + ((None, " +"),)


def written(draft, row, blanks):
    """A text of tokens, each behind so many blanks, and the places of all of them."""
    text, places = "", []
    for at, name in enumerate(row):
        text += " " * blanks[at]
        places.append(len(text))
        text += chr(ord("a") + draft[0].index(name))
    return text + " " * blanks[-1], places


def plain_precedence(draft):
    """By the words of [67]: the precedence of a draft."""
    levels = tuple((side, tuple(sorted(names))) for side, names in draft[1])
    leveled = {name for _, names in levels for name in names}
    marks = tuple((rule, mark) for rule, (mark, _) in enumerate(rule_notes(draft)) if mark is not None and mark in leveled)
    return (levels, marks)


def languages_of(seed, count, in_order):
    """Drafts with their languages, of those drafts that have one."""
    rng = random.Random(seed)
    found = []
    for draft in random_drafts(seed + 1, count):
        text = print_grammar(draft)
        told = error_of(Language, text, lettered(draft), rng.choice(("slr", "lalr", "lr1")), in_order)
        if told is None:
            found.append((draft, Language(text, lettered(draft), rng.choice(("lalr", "lr1")), True)))
    return found


class Building(unittest.TestCase):
    def test_fields(self):
        for sort in SORTS:
            for in_order in (True, False):
                language = Language(SUMS, RULES, sort, in_order)
                self.assertTrue(set(FIELDS) <= set(vars(language)))
                draft = read_grammar(SUMS)
                grammar = plain_grammar(draft)
                machine = built(grammar, sort)
                precedence = ((("left", ("plus",)),), ())
                self.assertEqual((language.draft, language.grammar, language.machine), (draft, grammar, machine))
                self.assertIsInstance(language.lexer, Lexer)
                self.assertEqual(language.lexer.rules, RULES)
                self.assertEqual(language.clashes, conflicts(grammar, machine))
                self.assertEqual(language.left, settled(grammar, machine, precedence))
                rows = settled_rows(grammar, machine, precedence, in_order)
                self.assertEqual(language.table, table_of(grammar, machine[1], rows))

    def test_random(self):
        seen = {"open": 0, "useless": 0, "fine": 0, "marks": 0}
        for draft in random_drafts(451, 250):
            text = print_grammar(draft)
            grammar = plain_grammar(draft)
            told = error_of(Language, text, lettered(draft), "lalr", False)
            useless = useless_rules(grammar)
            if useless:
                self.assertEqual((type(told), told.rules), (Useless, useless))
                seen["useless"] += 1
                continue
            machine = built(grammar, "lalr")
            precedence = plain_precedence(draft)
            seen["marks"] += precedence[1] != ()
            wrong = error_of(settled_rows, grammar, machine, precedence, False)
            if wrong:
                self.assertEqual((type(told), told.state, told.token), (Open, wrong.state, wrong.token))
                seen["open"] += 1
            else:
                self.assertIsNone(told)
                seen["fine"] += 1
            language = Language(text, lettered(draft), "lalr", True)
            self.assertEqual(language.left, settled(grammar, machine, precedence))
            self.assertEqual(language.table[0], settled_rows(grammar, machine, precedence, True))
        self.assertGreater(min(seen.values()), 5)

    def test_levels(self):
        # Levels with their terminals in any order, and marks, of which one stands in no level.
        text = (
            "tokens z, num, b, a, minus; left z, a; right b; none minus; start S;"
            "S = S z S | S a S | S b S | minus S ^ minus | S minus S ^ num | num ^ a;"
        )
        rules = (("num", "n"), ("z", "z"), ("a", "a"), ("b", "b"), ("minus", "-"))
        language = Language(text, rules, "lalr", False)
        precedence = ((("left", ("a", "z")), ("right", ("b",)), ("none", ("minus",))), ((3, "minus"), (5, "a")))
        self.assertEqual(language.left, settled(language.grammar, language.machine, precedence))
        self.assertEqual(language.read("nznan"), ("tree", (1, 0, 5, "num", "z", 5, "num", "a", 5, "num")))
        self.assertEqual(language.read("nbnbn"), ("tree", (2, 5, "num", "b", 2, 5, "num", "b", 5, "num")))
        self.assertEqual(language.read("nanbn"), ("tree", (1, 5, "num", "a", 2, 5, "num", "b", 5, "num")))
        self.assertEqual(language.read("-nzn"), ("tree", (0, 3, "minus", 5, "num", "z", 5, "num")))
        # Rules by the least one of none: a minus behind a minus is refused.
        self.assertEqual(language.read("n-n-n")[:2], ("refused", 3))

    def test_in_order(self):
        text = "tokens num, plus; start S; S = S plus S | num;"
        told = error_of(Language, text, RULES, "lalr", False)
        self.assertEqual((type(told), told.token), (Open, "plus"))
        language = Language(text, RULES, "lalr", True)
        self.assertEqual(language.clashes[0][0], told.state)
        self.assertEqual(language.left, language.clashes)
        self.assertEqual(language.read("1+2+3"), ("tree", (0, 1, "num", "plus", 0, 1, "num", "plus", 1, "num")))
        self.assertEqual(Language(SUMS, RULES, "lalr", True).read("1+2+3"), ("tree", (0, 0, 1, "num", "plus", 1, "num", "plus", 1, "num")))

    def test_two_languages(self):
        one, other = Language(SUMS, RULES, "lalr", False), Language(LISTED, LISTED_RULES, "lr1", False)
        told = [one.read("1+2"), other.sweet("(1,2)"), one.papers(), other.papers()]
        self.assertEqual([one.read("1+2"), other.sweet("(1,2)"), one.papers(), other.papers()], told)
        one.papers().clear()
        one.papers()[0] = None
        self.assertEqual(one.papers(), told[2])


class Reading(unittest.TestCase):
    def check_answer(self, language, draft, row, text, places):
        grammar = language.grammar
        answer = language.read(text)
        begun = dead_end(grammar, row)
        if begun is None:
            self.assertEqual(answer[0], "tree")
            self.assertTrue(is_tree(grammar, grammar[1], answer[1]))
            self.assertEqual(leaves_of(grammar, grammar[1], answer[1]), row)
            self.assertEqual(tree_count(grammar, row), 1)
            self.assertEqual(language.sweet(text), ("tree", sweet_tree(draft, answer[1])))
            self.assertTrue(is_sweet_tree(draft, draft[2], language.sweet(text)[1]))
            self.assertEqual(plain_tree(draft, language.sweet(text)[1]), answer[1])
        else:
            going = [token for token in grammar[0] if dead_end(grammar, row[:begun] + (token,)) in (None, begun + 1)]
            going += [None] if takes(grammar, row[:begun]) else []
            place = places[begun] if begun < len(row) else len(text)
            self.assertEqual(answer, ("refused", place, tuple(going)))
            self.assertEqual(language.sweet(text), answer)
        return answer[0]

    def test_without_conflicts(self):
        rng = random.Random(453)
        seen = {"tree": 0, "refused": 0}
        languages = 0
        for draft, language in languages_of(454, 500, False):
            if language.clashes:
                continue
            languages += 1
            known = sentences_up_to(language.grammar, 6)
            for _ in range(6):
                row = list(rng.choice(known)) if known else []
                for _ in range(rng.choice((0, 0, 1, 2))):
                    row.insert(rng.randint(0, len(row)), rng.choice(draft[0]))
                if row and rng.random() < 0.3:
                    row.pop(rng.randrange(len(row)))
                blanks = [rng.choice((0, 0, 1, 3)) for _ in range(len(row) + 1)]
                text, places = written(draft, row, blanks)
                self.assertEqual([token[2] for token in language.tokens(text)], places)
                seen[self.check_answer(language, draft, tuple(row), text, places)] += 1
        self.assertGreater(languages, 20)
        self.assertGreater(min(seen.values()), 40)

    def test_with_conflicts(self):
        rng = random.Random(455)
        trees = clashes = 0
        for draft, language in languages_of(456, 120, True):
            clashes += language.clashes != ()
            for row in sentences_up_to(language.grammar, 5)[:8]:
                text, places = written(draft, row, [1] * (len(row) + 1))
                answer = language.read(text)
                told = parse(language.grammar, language.table, row)
                if told[0] == "tree":
                    self.assertEqual(answer, told)
                    self.assertTrue(is_tree(language.grammar, language.grammar[1], answer[1]))
                    self.assertEqual(leaves_of(language.grammar, language.grammar[1], answer[1]), row)
                    trees += 1
                else:
                    self.assertEqual(answer, (told[0], (places + [len(text)])[told[1]]) + told[2:])
        self.assertGreater(trees, 80)
        self.assertGreater(clashes, 15)

    def test_lists(self):
        for sort in SORTS:
            language = Language(LISTED, LISTED_RULES, sort, False)
            for text, sweet in (
                ("()", (0, "open", 0, "shut")), ("(1)", (0, "open", 1, 2, "num", 0, "shut")),
                ("(1., 22,\n())", (0, "open", 3, 2, "num", 1, "dot", "comma", 2, "num", 0, "comma", 3, 0, "open", 0, "shut", "shut")),
                ("; . .", (1, "semi", 2, "dot", "dot")), ("(.1;2)", (0, "open", 1, 4, "dot", 2, "num", "semi", "num", "shut")),
            ):
                self.assertEqual(language.sweet(text), ("tree", sweet))
                self.assertEqual(language.read(text), ("tree", plain_tree(language.draft, sweet)))
            for text in ("(", "(1", "(1,", "(,)", "1", "", ";", ";.1", "(1 1)", "(.)", "(.1;)"):
                self.assertEqual(language.sweet(text), language.read(text))
                self.assertEqual(language.read(text)[0], "refused")
            self.assertEqual(language.read("(1 1)"), ("refused", 3, ("comma", "dot", "shut")))
            self.assertEqual(language.read("(1 "), ("refused", 3, ("comma", "dot", "shut")))
            self.assertEqual(language.read("  ;  "), ("refused", 5, ("dot",)))
            self.assertEqual(language.read(" ; . )"), ("refused", 5, ("dot", None)))

    def test_refused_at_each_place(self):
        for sort in SORTS:
            language = Language(SUMS, RULES, sort, False)
            words = ["12", "+", "3", "+", "45"]
            for at in range(6):
                for blank in ("", " ", "  "):
                    turned = list(words)
                    turned[at:at + 1] = ["+" if at % 2 == 0 else "7"]
                    text = " " + " ".join(word + blank for word in turned)
                    place = 1 + sum(len(word + blank) + 1 for word in turned[:at])
                    hopes = ("num",) if at % 2 == 0 else ("plus", None)
                    self.assertEqual(language.read(text), ("refused", place, hopes))
                    text = "".join(word + blank for word in words[:at])
                    told = language.read(text)
                    self.assertEqual(told[0] if at % 2 else told, "tree" if at % 2 else ("refused", len(text), ("num",)))

    def test_unread(self):
        language = Language(SUMS, RULES, "lalr", False)
        for text, begin, at in (("x", 0, 0), ("1 + x", 4, 4), ("1 - 2 + +", 2, 2), ("+ + -", 4, 4)):
            self.assertEqual(language.read(text), ("unread", begin, at))
            self.assertEqual(language.sweet(text), ("unread", begin, at))
            told = error_of(language.tokens, text)
            self.assertEqual((type(told), told.begin, told.at), (BadText, begin, at))
        # A word that goes on, but does not end.
        language = Language("tokens a; start S; S = a;", (("a", "abc"), (None, "\n")), "slr", True)
        self.assertEqual([language.read("\nab"), language.read("abx"), language.read("abc")], [("unread", 1, 3), ("unread", 0, 2), ("tree", (0, "a"))])

    def test_many(self):
        language = Language("tokens a, b; start S; S = a*;", (("a", "a"), ("b", "b"), (None, " +")), "lalr", False)
        self.assertEqual(language.sweet("a" * 400), ("tree", (0, 400) + ("a",) * 400))
        self.assertEqual(language.read("a" * 401), ("many", 400))
        self.assertEqual(language.read("a  " * 402), ("many", 1200))
        self.assertEqual(language.sweet(" " + "b" * 900), ("many", 401))
        self.assertEqual(language.read("a" * 4000), ("many", 400))
        self.assertEqual(language.read("a" * 399 + "c" * 9), ("unread", 399, 399))
        self.assertEqual(language.read("a" * 401 + "c"), ("unread", 401, 401))
        self.assertEqual(language.read(" " * 4000), ("tree", (0, 1)))
        self.assertEqual(language.read("a " * 399 + "b"), ("refused", 798, ("a", None)))

    def test_long(self):
        language = Language(DEEP, (("a", "a"), (None, " +")), "lalr", False)
        for count in (1, 5, 200):
            self.assertEqual(language.sweet("a" * count)[0], "tree")
        most = max(count for count in range(200, 260) if language.read("a" * count)[0] == "tree")
        self.assertEqual(language.read("a" * (most + 1))[0], "long")
        for count in (most + 1, 300, 400):
            answer = language.read(" a" * count)
            self.assertEqual(answer[0], "long")
            told = parse(language.grammar, language.table, ("a",) * count)
            self.assertEqual(answer[1], 2 * told[1] + 1 if told[1] < count else 2 * count)
            self.assertEqual(language.sweet(" a" * count), answer)

    def test_wrong_texts(self):
        language = Language(SUMS, RULES, "lalr", False)
        for function in (language.tokens, language.read, language.sweet):
            for bad in junk() + ["a" * 4001, "1 + \t", "1%", "\u00e9", ["1"], b"1"]:
                if type(bad) is not str or len(bad) > 4000 or "\t" in bad or "%" in bad or "\u00e9" in bad:
                    self.assertIs(type(error_of(function, bad)), InvalidText)
        self.assertEqual(language.tokens("1 + 22"), (("num", "1", 0), ("plus", "+", 2), ("num", "22", 4)))
        self.assertEqual(language.tokens(""), ())


class Papers(unittest.TestCase):
    def test_papers(self):
        papers = 0
        for draft, language in languages_of(457, 40, True) + [(None, Language(SUMS, RULES, sort, False)) for sort in SORTS]:
            told = language.papers()
            self.assertIs(type(told), list)
            self.assertEqual(len(told), len(language.clashes))
            for (state, token, deeds), paper in zip(language.clashes, told):
                self.assertEqual(len(paper), len(deeds))
                for deed, witness in zip(deeds, paper):
                    if witness is not None:
                        self.assertTrue(is_witness(language.grammar, language.machine, state, token, deed, witness))
                        papers += 1
                again = paper_of(language.grammar, language.machine, (state, token, deeds))
                self.assertEqual([one is None for one in paper], [one is None for one in again])
        self.assertGreater(papers, 40)
        self.assertEqual(Language(LISTED, LISTED_RULES, "lalr", False).papers(), [])

    def test_too_many(self):
        chain = " ".join(f"N{at} = N{at + 1} N{at + 1} N{at + 1} N{at + 1} N{at + 1} N{at + 1} N{at + 1} N{at + 1};" for at in range(5))
        text = "tokens num, plus, a, b; left plus; start S; S = S plus S | num | a N0 b; " + chain + " N5 = a;"
        language = Language(text, RULES + (("a", "a"), ("b", "b")), "lalr", False)
        check_too_many(self, 20000, language.papers)


class Errors(unittest.TestCase):
    def check_error(self, error, attributes, *arguments):
        before = frozen(arguments)
        told = error_of(Language, *arguments)
        self.assertIs(type(told), error, (repr(told), arguments))
        self.assertEqual(vars(told), attributes)
        self.assertEqual(frozen(arguments), before)

    def test_order(self):
        useless = "tokens num, plus; start S; S = num | T; T = T plus; B = num;"
        rows = [
            (InvalidText, {}, 0, None), (InvalidText, {}, 0, "a" * 4001), (BadGrammar, {"line": 1, "sign": 24}, 0, "tokens a; start S; S = b;"),
            (InvalidDraft, {}, 0, "tokens a; start S; S = a | a;"), (TooMany, {"limit": 40}, 0, nonterminals_text()),
            (TooMany, {"limit": 80}, 0, rules_text()),
            (InvalidRules, {}, 1, ()), (InvalidRules, {}, 1, None), (BadRegex, {"rule": 1, "at": 1}, 1, (("num", "a"), ("plus", "(")) ),
            (EmptyWord, {"rule": 0}, 1, (("num", "a*"), ("plus", "("))), (TooMany, {"limit": 400}, 1, wide_rules()),
            (InvalidWord, {}, 2, None), (InvalidWord, {}, 2, "LALR"), (InvalidWord, {}, 3, None), (InvalidWord, {}, 3, 1), (InvalidWord, {}, 3, "True"),
        ]
        good = [SUMS, RULES, "lalr", False]
        self.assertIsNone(error_of(Language, *good))
        for error, attributes, at, bad in rows:
            for behind in range(at, 4):
                wrong = [None, None, None, None]
                arguments = good[:at] + [bad] + good[at + 1:behind + 1] + wrong[max(behind, at) + 1:]
                self.check_error(error, attributes, *arguments)
        for text in (useless, "tokens num; start S; S = S;"):
            rules = useless_rules(plain_grammar(read_grammar(text)))
            for names in (RULES, (("x", "x"),)):
                self.check_error(Useless, {"rules": rules}, text, names, "lalr", False)
                self.check_error(InvalidWord, {}, text, names, "lalr", None)
                self.check_error(InvalidWord, {}, text, names, "lalrs", False)

    def test_unknown_names(self):
        for rules, names in (
            ((("num", "n"), ("x", "x"), (None, "o"), ("b", "b"), ("x", "y")), ("b", "x")), ((("plus", "p"), ("nums", "n")), ("nums",)),
        ):
            for text in (SUMS, "tokens num, plus; start S; S = S plus S | num;"):
                self.check_error(UnknownNames, {"names": names}, text, rules, "lalr", False)
        self.check_error(UnknownNames, {"names": ("x",)}, print_grammar(draft_of(fan(9, 219, 1))), (("x", "x"),), "lr1", False)
        # Not all terminals need a rule, and one may have several.
        language = Language(SUMS, (("num", "1"), ("num", "2"), (None, " ")), "lalr", False)
        self.assertEqual([language.read("2")[0], language.read("1 2")], ["tree", ("refused", 2, ("plus", None))])

    def test_built(self):
        rules = (("a00", "a"),)
        large = print_grammar(draft_of(fan(9, 219, 1)))
        self.assertLess(len(large), 4001)
        for sort in ("lr1", "joined"):
            self.check_error(TooMany, {"limit": 2000}, large, rules, sort, False)
        middle = print_grammar(draft_of(fan(9, 219)))
        self.check_error(TooMany, {"limit": 200}, middle, rules, "joined", False)
        self.assertEqual(len(Language(middle, rules, "lr1", False).machine[0]), 2000)
        self.assertEqual(len(Language(middle, rules, "slr", False).machine[0]), 248)

    def test_open(self):
        text = "tokens num, plus; start S; S = S plus S | num;"
        machine = built(plain_grammar(read_grammar(text)), "lalr")
        state, token, _ = conflicts(plain_grammar(read_grammar(text)), machine)[0]
        self.check_error(Open, {"state": state, "token": token}, text, RULES, "lalr", False)
        self.assertIsNone(error_of(Language, text, RULES, "lalr", True))


def draft_of(grammar):
    """The draft of a grammar, without lists."""
    lines = {}
    for left, right in grammar[2]:
        lines.setdefault(left, []).append((right, None, None))
    return (grammar[0], (), grammar[1], tuple((left, tuple(rows)) for left, rows in lines.items()))


def nonterminals_text():
    """A text with 36 lines and five lists."""
    lines = "".join(f"N{at} = N{at + 1};" for at in range(34)) + "N34 = a;"
    return "tokens a, b; start S; S = N0 a* b* a+ b+ a? b?;" + lines


def rules_text():
    """A text with 79 alternatives and a list."""
    rows = [" ".join("ab"[number >> at & 1] for at in range(7)) for number in range(78)]
    return "tokens a, b; start S; S = a* | " + " | ".join(rows) + ";"


def wide_rules():
    """Rules whose machine has more than 400 states: the last letters but nine must be known."""
    return (("num", "[ab]*a" + "[ab]" * 9), ("plus", "c"))


if __name__ == "__main__":
    unittest.main()
