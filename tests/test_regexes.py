import random
import re
import unittest

from shiftroads.errors import BadRegex, InvalidNumber, InvalidRegex, InvalidText
from shiftroads.regexes import is_regex, read_regex, regex_ends
from tests.makers import bent, check_refusals, error_of, frozen, junk, nested, random_regex, words_and_beginnings

ALL = "".join(sorted([chr(code) for code in range(32, 127) if chr(code) != "%"] + ["\n"]))
INNER = "\\\\(?:n|[^A-Za-z0-9])|[^\\\\\\]-]"
ITEM = "(%s)(?:-(%s))?" % (INNER, INNER)
CLASS = "\\[(?:\\^|(?!\\^))((?:(?:%s)(?:-(?:%s))?)+)\\]" % (INNER, INNER)


def is_character_row(value, most):
    return type(value) is str and len(value) <= most and all(sign in ALL for sign in value)


def meant(inner):
    return "\n" if inner == "\\n" else inner[-1]


def class_letters(text):
    """The letters of square brackets, or None if an item falls."""
    match = re.fullmatch(CLASS, text, re.S)
    found = set()
    for low, high in re.findall(ITEM, match.group(1), re.S):
        low = meant(low)
        high = meant(high) if high else low
        if high < low:
            return None
        found |= {sign for sign in ALL if low <= sign <= high}
    return found if text[1] != "^" else set(ALL) - found


def is_right(text):
    """A second way to tell regular texts, by putting x for what is an atom, again and again."""
    shape = ""
    depth = deepest = 0
    while text:
        match = re.match(CLASS, text, re.S)
        if match:
            if not class_letters(match.group()):
                return False
            shape += "x"
        else:
            match = re.match("\\\\(?:n|[^A-Za-z0-9])", text, re.S) or re.match("[^\\\\\\[]", text, re.S)
            if not match or not all(sign in ALL for sign in match.group()):
                return False
            shape += match.group() if match.group() in "()|*+?" else "x"
            depth += {"(": 1, ")": -1}.get(match.group(), 0)
            deepest = max(deepest, depth)
        text = text[match.end():]
    before = None
    while before != shape:
        before = shape
        shape = re.sub("\\((?:x[*+?]?|[|])*\\)", "x", shape)
    return deepest <= 8 and re.fullmatch("(?:x[*+?]?|[|])*", shape) is not None


def goes_on(text):
    """Whether one of many ends makes a text right."""
    return any(
        is_right(text + one + two + ")" * count)
        for one in ("", "n", "~") for two in ("", "]", "a]", "~]") for count in range(9)
    )


def told_place(text):
    """The place at which a text is refused, or None, by trying ends."""
    if is_right(text):
        return None
    for at in range(len(text)):
        if not goes_on(text[:at + 1]):
            # Of an item that falls with an escaped character the backslash is told.
            escaped = at and text[at - 1] == "\\" and not goes_on(text[:at] + "a")
            return at - 1 if escaped and (text[at] == "n" or not text[at].isalnum()) else at
    return len(text)


def is_plain_regex(value, deep=40):
    """A second way to tell regular trees."""
    if type(value) is not tuple or len(value) != 2 or deep == 0:
        return False
    if type(value[0]) is not str:
        return False
    if value[0] == "letters":
        return is_character_row(value[1], 96) and list(value[1]) == sorted(set(value[1])) and value[1] != ""
    if value[0] in ("row", "or"):
        if type(value[1]) is not tuple or value[0] == "or" and len(value[1]) < 2:
            return False
        return all(is_plain_regex(part, deep - 1) for part in value[1])
    return value[0] in ("many", "some", "maybe") and is_plain_regex(value[1], deep - 1)


def deep_trees(depth):
    """Trees that are nested just so deep."""
    found = []
    for wrap in (
        lambda tree: ("many", tree), lambda tree: ("some", tree), lambda tree: ("maybe", tree),
        lambda tree: ("row", (tree,)), lambda tree: ("or", (("letters", "b"), tree)),
        lambda tree: ("many", tree) if len(repr(tree)) % 2 else ("row", (tree, ("letters", "a"))),
    ):
        for tree in (("letters", "a"), ("row", ())):
            for _ in range(depth - 1):
                tree = wrap(tree)
            found.append(tree)
    return found


def as_pattern(tree):
    """The tree as a pattern of Python's own."""
    sort, inner = tree
    if sort == "letters":
        return "[" + "".join(re.escape(sign) for sign in inner) + "]"
    if sort == "row":
        return "".join("(?:%s)" % as_pattern(part) for part in inner)
    if sort == "or":
        return "|".join("(?:%s)" % as_pattern(part) for part in inner)
    return "(?:%s)%s" % (as_pattern(inner), {"many": "*", "some": "+", "maybe": "?"}[sort])


class Reading(unittest.TestCase):
    def test_forms(self):
        a, b, c = ("letters", "a"), ("letters", "b"), ("letters", "c")
        for text, tree in (
            ("", ("row", ())), ("a", a), ("ab", ("row", (a, b))), ("a|b", ("or", (a, b))),
            ("a|b|c", ("or", (a, b, c))), ("|", ("or", (("row", ()), ("row", ())))), ("a|", ("or", (a, ("row", ())))),
            ("a*", ("many", a)), ("a+", ("some", a)), ("a?", ("maybe", a)), ("ab*", ("row", (a, ("many", b)))),
            ("()", ("row", ())), ("(a)", a), ("((a))", a), ("(ab)c", ("row", (("row", (a, b)), c))),
            ("(a|b)*", ("many", ("or", (a, b)))), ("(a*)*", ("many", ("many", a))), ("()+", ("some", ("row", ()))),
            ("(a)b", ("row", (a, b))), ("((a|b)|c)", ("or", (("or", (a, b)), c))), (".", ("letters", ALL[1:])),
            ("[a]", a), ("[ba]", ("letters", "ab")), ("[aa]", a), ("[a-c]", ("letters", "abc")), ("[a-a]", a),
            ("[c-da-b]", ("letters", "abcd")), ("[.()*+?|[]", ("letters", "()*+.?[|")), ("[a^]", ("letters", "^a")),
            ("[\\^]", ("letters", "^")), ("[\\-\\]]", ("letters", "-]")), ("[+-\\-]", ("letters", "+,-")),
            ("[\\n-!]", ("letters", "\n !")), ("[\n]", ("letters", "\n")), ("\n", ("letters", "\n")),
            ("\\n", ("letters", "\n")), ("\\.", ("letters", ".")), ("\\\\", ("letters", "\\")), ("\\|", ("letters", "|")),
            ("\\\n", ("letters", "\n")), ("\\ ", ("letters", " ")), ("\\-", ("letters", "-")),
            ("]", ("letters", "]")), ("^", ("letters", "^")), ("-", ("letters", "-")), ("{", ("letters", "{")),
            ("a^", ("row", (a, ("letters", "^")))), ("[^b-~]", ("letters", ALL[:ALL.index("b")])), ("$", ("letters", "$")),
            ("[^a]", ("letters", ALL.replace("a", ""))), ("[^^]", ("letters", ALL.replace("^", ""))),
            ("[^\\n]", ("letters", ALL[1:])), ("[\\n-~]", ("letters", ALL)), ("[!-~]", ("letters", ALL[2:])),
            ("[^\\n-}]", ("letters", "~")), ("[^\\-~]", ("letters", ALL[:-1].replace("-", ""))),
        ):
            self.assertEqual(read_regex(text), tree, text)
            self.assertTrue(is_right(text), text)
            self.assertTrue(is_regex(read_regex(text)))

    def test_each_character(self):
        for sign in ALL:
            if sign in "\\.()[*+?|":
                if sign not in ".|":
                    self.assertIsInstance(error_of(read_regex, sign), BadRegex, sign)
            else:
                self.assertEqual(read_regex(sign), ("letters", sign))
            if sign in "\\]-^":
                self.assertIsInstance(error_of(read_regex, "[" + sign + "]"), BadRegex, sign)
            else:
                self.assertEqual(read_regex("[" + sign + "]"), ("letters", sign))
            for form, place in (("\\%s", 1), ("[\\%s]", 2)):
                if sign == "n":
                    self.assertEqual(read_regex(form % sign), ("letters", "\n"))
                elif sign.isalnum():
                    error = error_of(read_regex, form % sign)
                    self.assertEqual((type(error), error.at), (BadRegex, place))
                else:
                    self.assertEqual(read_regex(form % sign), ("letters", sign))

    def test_places(self):
        for text, at in (
            ("*", 0), ("+a", 0), ("a**", 2), ("a*?", 2), ("a|*", 2), (")", 0), ("a)", 1), ("(a", 2), ("(", 1), ("((a)", 4),
            ("(*)", 1), ("(a))", 3), ("[", 1), ("[]", 1), ("[]a]", 1), ("[a", 2), ("[^", 2), ("[^]", 2), ("[^]]", 2),
            ("[-a]", 1), ("[^-a]", 2), ("[a-]", 3), ("[a-", 3), ("[a-b-c]", 4), ("[a--]", 3), ("[b-a]", 3),
            ("[b-\\-]", 3), ("[b-\\n]", 3), ("[b-\\", 4), ("[b-\\a]", 4), ("[a-b\\", 5), ("[!-\n]", 3), ("[a-b0-9z-y]", 9),
            ("\\", 1), ("a\\", 2), ("\\a", 1), ("\\0", 1), ("\\N", 1), ("[\\a]", 2), ("[\\", 2), ("[a\\]", 4),
            ("[^\\n-~]", 6), ("[^\\n -~]", 7), ("x[^ -~\n]y", 7), ("[^\\n- !-~]", 9), ("a(b|c", 5), ("(a|b)c)", 6),
        ):
            error = error_of(read_regex, text)
            self.assertIs(type(error), BadRegex, text)
            self.assertEqual((error.rule, error.at), (0, at), text)

    def test_open_brackets(self):
        self.assertEqual(read_regex("(" * 8 + "a" + ")" * 8), ("letters", "a"))
        self.assertEqual(read_regex("((((((((a))))))))" * 3), ("row", (("letters", "a"),) * 3))
        for text, at in (("(" * 9 + "a" + ")" * 9, 8), ("a" + "(" * 9, 9), ("()" * 20 + "(" * 9, 48), ("(" * 8, 8)):
            self.assertEqual(error_of(read_regex, text).at, at)

    def test_length(self):
        self.assertEqual(read_regex("a" * 200), ("row", (("letters", "a"),) * 200))
        self.assertIs(type(error_of(read_regex, "a" * 201)), InvalidText)
        self.assertIs(type(error_of(read_regex, "*" * 201)), InvalidText)
        self.assertEqual(error_of(read_regex, "a" * 199 + "(").at, 200)
        self.assertEqual(error_of(read_regex, "a" * 199 + "\\").at, 200)

    def test_other_characters(self):
        for sign in ("\t", "%", "\u007f", "\u00e9", "\r", "\u0000"):
            for text in (sign, "a" + sign, "[" + sign + "]", "\\" + sign, "*" + sign):
                self.assertIs(type(error_of(read_regex, text)), InvalidText, text)

    def test_broken_texts(self):
        rng = random.Random(71)
        signs = "ab(((()))[]]^--\\|*+?.n\n1"
        broken = 0
        for _ in range(1500):
            text = "".join(rng.choice(signs) for _ in range(rng.randint(1, 9)))
            if rng.random() < 0.5:
                text = rng.choice(("(a|b)*[^a-c]", "[a-c]+\\.x?", "((a)|[^\\n])", "a[\\--b]|(b*c)?")) + text
                at = rng.randrange(len(text))
                text = text[:at] + rng.choice(signs) + text[at:]
            place = told_place(text)
            error = error_of(read_regex, text)
            self.assertEqual(None if error is None else (error.rule, error.at), place if place is None else (0, place), text)
            broken += place is not None
        self.assertGreater(broken, 500)

    def test_refused(self):
        check_refusals(self, read_regex, ("a",), (InvalidText,), (lambda value: is_character_row(value, 200),))


class Trees(unittest.TestCase):
    def test_ordinary(self):
        rng = random.Random(72)
        for _ in range(300):
            self.assertIs(is_regex(random_regex(rng, "abc\n~", 4)), True)

    def test_by_hand(self):
        a = ("letters", "a")
        for value, told in (
            (a, True), (("letters", ""), False), (("letters", "ba"), False), (("letters", "aa"), False),
            (("letters", ALL), True), (("letters", "%"), False), (("letters", "a\t"), False), (("letters", ("a",)), False),
            (("row", ()), True), (("row", (a,)), True), (("row", [a]), False), (("or", ()), False), (("or", (a,)), False),
            (("or", (a, a)), True), (("many", a), True), (("many", (a,)), False), (("many", a, a), False), (("Many", a), False),
            (["many", a], False), (("maybe", ("some", ("row", ()))), True), (("row", a), False), (("row", ((),)), False),
            (("letters", "a", "b"), False), (("letters",), False), ((True, a), False), (("\n",), False),
        ):
            self.assertIs(is_regex(value), told, value)

    def test_depth(self):
        for tree in deep_trees(40):
            self.assertTrue(is_regex(tree))
            self.assertFalse(is_regex(("many", tree)))
            self.assertFalse(is_regex(("row", (("letters", "a"), tree))))
            self.assertIs(type(error_of(regex_ends, ("many", tree), "a", 0)), InvalidRegex)
        self.assertTrue(all(is_regex(tree) for depth in (1, 2, 39) for tree in deep_trees(depth)))
        self.assertFalse(any(is_regex(tree) for depth in (41, 90) for tree in deep_trees(depth)))

    def test_bent(self):
        rng = random.Random(73)
        for _ in range(25):
            tree = random_regex(rng, "abc", 3)
            for value in bent(tree):
                self.assertIs(is_regex(value), is_plain_regex(value), value)

    def test_other_kinds(self):
        for value in junk() + [nested(100), ("row", (nested(99),))]:
            self.assertIs(is_regex(value), False)


class Matching(unittest.TestCase):
    def test_against_words(self):
        rng = random.Random(74)
        for _ in range(400):
            tree = random_regex(rng, "ab", 4)
            text = "".join(rng.choice("abc" if rng.random() < 0.1 else "ab") for _ in range(rng.randint(0, 5)))
            words = words_and_beginnings(tree, len(text))[0]
            for at in range(len(text) + 1):
                told = [end for end in range(at, len(text) + 1) if text[at:end] in words]
                self.assertEqual(regex_ends(tree, text, at), told, (tree, text, at))

    def test_against_python(self):
        rng = random.Random(75)
        for _ in range(150):
            tree = random_regex(rng, "a\n-]", 3)
            text = "".join(rng.choice("a\n-]^") for _ in range(6))
            for at in (0, 3, 6):
                told = [end for end in range(at, 7) if re.fullmatch(as_pattern(tree), text[at:end])]
                self.assertEqual(regex_ends(tree, text, at), told)

    def test_deep_trees(self):
        for tree in deep_trees(40):
            ends = regex_ends(tree, "ab" + "a" * 30, 0)
            self.assertEqual(ends, sorted(set(ends)))
            self.assertTrue(set(ends) <= set(range(33)))
        many = ("letters", "a")
        for _ in range(39):
            many = ("many", many)
        self.assertEqual(regex_ends(many, "aaab", 0), [0, 1, 2, 3])
        self.assertEqual(regex_ends(many, "aaab", 3), [3])

    def test_long_text(self):
        tree = read_regex("(a|b)*")
        self.assertEqual(regex_ends(tree, "ab" * 2000, 0), list(range(4001)))
        self.assertEqual(regex_ends(tree, "ab" * 2000, 4000), [4000])
        self.assertEqual(regex_ends(read_regex("a*b"), "a" * 4000, 0), [])
        self.assertIs(type(error_of(regex_ends, tree, "ab" * 2000 + "a", 0)), InvalidText)

    def test_refused(self):
        tree = read_regex("a*")
        text = "aab"
        fine = (is_plain_regex, lambda value: is_character_row(value, 4000), lambda value: type(value) is int and 0 <= value <= 3)
        errors = (InvalidRegex, InvalidText, InvalidNumber)
        check_refusals(self, regex_ends, (tree, text, 0), errors, fine)
        self.assertIsNone(error_of(regex_ends, tree, text, 3))
        for at in (4, -1, True, False, "0"):
            self.assertIs(type(error_of(regex_ends, tree, text, at)), InvalidNumber)
        for wrong in ("\t", "%", "\u00e9"):
            self.assertIs(type(error_of(regex_ends, tree, wrong, 9)), InvalidText)

    def test_new_list(self):
        tree = read_regex("(a|b)*")
        before = frozen(tree)
        first = regex_ends(tree, "ab", 0)
        first.append(9)
        self.assertEqual(regex_ends(tree, "ab", 0), [0, 1, 2])
        self.assertEqual(frozen(tree), before)


if __name__ == "__main__":
    unittest.main()
