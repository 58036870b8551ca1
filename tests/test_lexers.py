import random
import re
import unittest

from shiftroads.errors import BadRegex, BadText, EmptyWord, InvalidNumber, InvalidRules, InvalidText
from shiftroads.lexers import Lexer, place_of
from shiftroads.machines import least_machine, word_machine
from shiftroads.regexes import read_regex
from tests.makers import all_words, bent, check_refusals, check_too_many, error_of, frozen, is_plain_name, random_regex
from tests.makers import words_and_beginnings
from tests.test_regexes import is_character_row

RULES = (
    ("if", "if"), ("else", "else"), ("word", "[a-z][a-z0-9]*"), ("num", "[0-9]+(\\.[0-9]+)?"), ("less", "<"), ("same", "<="),
    ("less", "<<"), ("word", "\\$[a-z]+\\$"), (None, "[ \\n]+"), (None, "#[^\\n]*"), ("plus", "\\+"),
)


def is_place(text):
    return lambda value: type(value) is int and 0 <= value <= len(text)


def is_text(value):
    return is_character_row(value, 4000)


def is_plain_rules(value):
    """A second way to tell rules, whose regular texts are looked at as strings alone."""
    if type(value) is not tuple or not 1 <= len(value) <= 40:
        return False
    for rule in value:
        if type(rule) is not tuple or len(rule) != 2 or not is_character_row(rule[1], 200):
            return False
        if rule[0] is not None and not is_plain_name(rule[0], "small"):
            return False
    return True


def text_of_tree(tree):
    """A regular text of a tree of letters a to d."""
    sort, inner = tree
    if sort == "letters":
        return "[" + inner + "]"
    if sort in ("row", "or"):
        return "(" + ("" if sort == "row" else "|").join(text_of_tree(part) for part in inner) + ")"
    return "(" + text_of_tree(inner) + ")" + {"many": "*", "some": "+", "maybe": "?"}[sort]


def plain_longest(rules, text, at):
    """A second way, by another program: the longest word that some rule matches."""
    for end in range(len(text), at, -1):
        for rule, (_, regex) in enumerate(rules):
            if re.fullmatch(regex, text[at:end]):
                return (rule, end)
    return None


def plain_tokens(rules, trees, text):
    """The tokens, or the two places of the error."""
    begins = set().union(*[words_and_beginnings(tree, len(text))[1] for tree in trees])
    found = []
    at = 0
    while at < len(text):
        told = plain_longest(rules, text, at)
        if told is None:
            return (at, max(end for end in range(at, len(text) + 1) if text[at:end] in begins))
        if rules[told[0]][0] is not None:
            found.append((rules[told[0]][0], text[at:told[1]], at))
        at = told[1]
    return tuple(found)


class Making(unittest.TestCase):
    def test_fields(self):
        for rules in (RULES, RULES[:1], (("a", "x|y"), ("a", "xy*"), (None, "z"))):
            lexer = Lexer(rules)
            self.assertEqual(lexer.rules, rules)
            self.assertEqual(lexer.machine, least_machine(word_machine(tuple(read_regex(text) for _, text in rules))))
            self.assertEqual(lexer.tokens(""), ())
            self.assertEqual(Lexer(rules).machine, lexer.machine)

    def test_forty_rules(self):
        rules = tuple((f"n{at}", first + second) for at, (first, second) in enumerate(zip("abcdefgh" * 5, "vwxyz" * 8)))
        lexer = Lexer(rules)
        for name, word in rules:
            self.assertEqual(lexer.tokens(word + word), ((name, word, 0), (name, word, 2)))
        self.assertIs(type(error_of(Lexer, rules + rules[:1])), InvalidRules)
        self.assertIs(type(error_of(Lexer, ())), InvalidRules)

    def test_refused(self):
        check_refusals(self, Lexer, (RULES,), (InvalidRules,), (is_plain_rules,))
        for rules in (RULES[2:5], (("a", "b"), (None, "c"))):
            for value in bent(rules):
                told = error_of(Lexer, value)
                self.assertIs(type(told) is InvalidRules, not is_plain_rules(value), value)
        for name in ("A", "", "9a", "a_b", "a" * 21, True, 0, ("a",)):
            self.assertIs(type(error_of(Lexer, ((name, "a"),))), InvalidRules)
        for text in ("a" * 201, "(" * 201, "a\t", "%", "\u00e9", b"a", None, ("letters", "a")):
            self.assertIs(type(error_of(Lexer, (("a", text),))), InvalidRules)
        self.assertEqual(Lexer((("a" * 20, "a" * 200),)).tokens("a" * 400)[1], ("a" * 20, "a" * 200, 200))

    def test_broken_rules(self):
        for rules, rule, at in (
            ((("a", "("),), 0, 1), ((("a", "x"), ("b", "y"), (None, "[b-a]")), 2, 3), ((("a", "x"), ("b", "*"), ("b", "+")), 1, 0),
            ((("a", "x"), ("b", "x)"), ("b", "")), 1, 1),
        ):
            told = error_of(Lexer, rules)
            self.assertIs(type(told), BadRegex)
            self.assertEqual((told.rule, told.at), (rule, at))

    def test_empty_words(self):
        for rules, rule in (
            ((("a", ""),), 0), ((("a", "x"), ("b", "y*")), 1), ((("a", "x"), (None, "(a|b?)(c*)"), ("b", "(")), 1),
            ((("a", "x?"), ("b", "y*")), 0),
        ):
            told = error_of(Lexer, rules)
            self.assertIs(type(told), EmptyWord)
            self.assertEqual(told.rule, rule)

    def test_which_comes_first(self):
        self.assertIs(type(error_of(Lexer, (("a", "("), ("b", "x*"), ("C", "y")))), InvalidRules)
        self.assertIs(type(error_of(Lexer, (("a", "("), ("b", "x*")))), BadRegex)
        self.assertIs(type(error_of(Lexer, (("a", "x*"), ("b", "(")))), EmptyWord)
        wide = ("a", "[ab]*a" + "[ab]" * 9)
        check_too_many(self, 400, Lexer, (wide,))
        check_too_many(self, 400, Lexer, (("b", "c"), wide))
        self.assertIs(type(error_of(Lexer, (wide, ("b", "c?")))), EmptyWord)
        self.assertIs(type(error_of(Lexer, (wide, ("b", "c?*")))), BadRegex)
        self.assertIs(type(error_of(Lexer, (wide, ("B", "c?*")))), InvalidRules)


class Reading(unittest.TestCase):
    def test_by_hand(self):
        lexer = Lexer(RULES)
        self.assertEqual(
            lexer.tokens("if iff else elsewhere 3.14<=x1<<<"),
            (
                ("if", "if", 0), ("word", "iff", 3), ("else", "else", 7), ("word", "elsewhere", 12), ("num", "3.14", 22),
                ("same", "<=", 26), ("word", "x1", 28), ("less", "<<", 30), ("less", "<", 32),
            ),
        )
        self.assertEqual(lexer.tokens("# if else\n\n  +# more"), (("plus", "+", 13),))
        self.assertEqual(lexer.tokens(" \n "), ())
        self.assertEqual(lexer.tokens("$ab$if"), (("word", "$ab$", 0), ("if", "if", 4)))
        self.assertEqual(lexer.longest("if", 0), (0, 2))
        self.assertEqual(lexer.longest("if", 1), (2, 2))
        self.assertIsNone(lexer.longest("if", 2))
        self.assertIsNone(lexer.longest("3.", 1))
        self.assertEqual(lexer.longest("3.x", 0), (3, 1))

    def test_no_word(self):
        lexer = Lexer(RULES)
        for text, begin, at in (
            ("?if", 0, 0), ("if ? if", 3, 3), ("if ?", 3, 3), ("$ab", 0, 3), ("x $ab if", 2, 5), ("x $", 2, 3), ("$$", 0, 1),
            ("3.", 1, 1), ("3.x", 1, 1), ("if$a1$", 2, 4), ("~", 0, 0),
        ):
            told = error_of(lexer.tokens, text)
            self.assertIs(type(told), BadText, text)
            self.assertEqual((told.begin, told.at), (begin, at), text)

    def test_first_rule_of_like_lengths(self):
        lexer = Lexer((("low", "[a-c]+"), ("high", "[b-d]+"), ("low", "abc|d"), (None, "d*a")))
        self.assertEqual(lexer.tokens("abcd"), (("low", "abc", 0), ("high", "d", 3)))
        self.assertEqual(lexer.tokens("bcda"), (("high", "bcd", 0), ("low", "a", 3)))
        self.assertEqual(lexer.tokens("dda"), ())
        self.assertEqual(lexer.longest("dda", 0), (3, 3))

    def test_against_another_program(self):
        rng = random.Random(141)
        seen = {"words": 0, "errors": 0, "behind": 0}
        for _ in range(250):
            trees = [random_regex(rng, "abc", 2) for _ in range(rng.randint(1, 3))]
            trees = [tree for tree in trees if not re.fullmatch(text_of_tree(tree), "")]
            if not trees:
                continue
            rules = tuple((rng.choice(("one", "two", None)), text_of_tree(tree)) for tree in trees)
            lexer = Lexer(rules)
            for _ in range(25):
                text = "".join(rng.choice("aabbcd"[:rng.randint(3, 6)]) for _ in range(rng.randint(0, 6)))
                for at in range(len(text) + 1):
                    self.assertEqual(lexer.longest(text, at), plain_longest(rules, text, at), (rules, text, at))
                told = plain_tokens(rules, trees, text)
                if told and type(told[0]) is int:
                    error = error_of(lexer.tokens, text)
                    self.assertIs(type(error), BadText)
                    self.assertEqual((error.begin, error.at), told, (rules, text))
                    seen["errors"] += 1
                    seen["behind"] += error.at > error.begin
                else:
                    self.assertEqual(lexer.tokens(text), told)
                    seen["words"] += len(told) > 1
        self.assertGreater(min(seen.values()), 200)

    def test_long_texts(self):
        lexer = Lexer((("a", "a"), ("b", "a*b")))
        self.assertEqual(len(lexer.tokens("a" * 4000)), 4000)
        self.assertEqual(lexer.tokens("a" * 3999 + "b"), (("b", "a" * 3999 + "b", 0),))
        self.assertEqual(lexer.longest("a" * 4000, 3999), (0, 4000))
        for call in (lexer.tokens, lambda text: lexer.longest(text, 0), lambda text: place_of(text, 0)):
            self.assertIs(type(error_of(call, "a" * 4001)), InvalidText)

    def test_refused(self):
        lexer = Lexer(RULES)
        text = "if x"
        check_refusals(self, lexer.tokens, (text,), (InvalidText,), (is_text,))
        check_refusals(self, lexer.longest, (text, 0), (InvalidText, InvalidNumber), (is_text, is_place(text)))
        for bad in ("a\t", "%", "\u00e9", b"a", None, ("a",)):
            self.assertIs(type(error_of(lexer.tokens, bad)), InvalidText)
            self.assertIs(type(error_of(lexer.longest, bad, None)), InvalidText)
        for at in (-1, 5, True, "0", None, 10 ** 119):
            self.assertIs(type(error_of(lexer.longest, text, at)), InvalidNumber)

    def test_same_again(self):
        before = frozen(RULES)
        lexer = Lexer(RULES)
        first = lexer.tokens("if x <= 3")
        error_of(lexer.tokens, "if ?")
        lexer.longest("xyz", 1)
        self.assertEqual(lexer.tokens("if x <= 3"), first)
        self.assertEqual(frozen(RULES), before)
        self.assertEqual(lexer.rules, RULES)


class Places(unittest.TestCase):
    def test_against_lines(self):
        for text in all_words("a\n", 5) + ["ab\n\ncd", "\n\n\n", "one\ntwo\n"]:
            places = [(line, column) for line, row in enumerate(text.split("\n")) for column in range(len(row) + 1)]
            self.assertEqual([place_of(text, at) for at in range(len(text) + 1)], places)
        self.assertEqual(place_of("x\n" * 2000, 4000), (2000, 0))
        self.assertEqual(place_of("ab\ncd", 2), (0, 2))
        self.assertEqual(place_of("ab\ncd", 3), (1, 0))

    def test_refused(self):
        text = "ab\ncd"
        check_refusals(self, place_of, (text, 2), (InvalidText, InvalidNumber), (is_text, is_place(text)))
        for at in (-1, 6, True, None):
            self.assertIs(type(error_of(place_of, text, at)), InvalidNumber)


if __name__ == "__main__":
    unittest.main()
