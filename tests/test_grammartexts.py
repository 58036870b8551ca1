import random
import re
import unittest

from shiftroads.drafts import is_draft
from shiftroads.errors import BadGrammar, InvalidDraft, InvalidText
from shiftroads.grammartexts import print_grammar, read_grammar
from tests.makers import check_refusals, draft_with, error_of, frozen, nothing, random_drafts

T = (
    "tokens oar, sail, rope;\nleft sail;\nstart Fleet;\n"
    "Fleet = Boat/rope*;\nBoat = sail Boat oar @row\n  | oar;\n"
)
LONG = "n" * 20


def refused_at(text):
    """The place at which a text is refused, or None."""
    error = error_of(read_grammar, text)
    if error is None or isinstance(error, InvalidDraft):
        return None
    assert type(error) is BadGrammar, error
    rows = text.split("\n")
    assert 1 <= error.line <= len(rows) and 1 <= error.sign <= len(rows[error.line - 1]) + 1
    return sum(len(row) + 1 for row in rows[:error.line - 1]) + error.sign - 1


def tokens_of(draft):
    """The tokens of a draft's text, by a second way than the printer's."""
    def row(names):
        return [token for name in names for token in (name, ",")][:-1]

    found = ["tokens"] + row(draft[0]) + [";"]
    for side, names in draft[1]:
        found += [side] + row(names) + [";"]
    found += ["start", draft[2], ";"]
    for name, alternatives in draft[3]:
        found += [name, "="]
        for items, mark, action in alternatives:
            for item in items:
                found += {1: [item], 2: [item[-1], item[0]], 3: [item[1 % len(item)], "/", item[-1], item[0]]}[
                    1 if isinstance(item, str) else len(item)]
            found += (["^", mark] if mark else []) + (["@", action] if action else []) + ["|"]
        found[-1] = ";"
    return found


def spread_out(rng, tokens):
    """A text of tokens with random blanks, line feeds and remarks between them."""
    gaps = [" ", "\n", "  \n ", "#\n", "# a; = | remark ~ # \n", " # tokens %s\n" % LONG, "\n\n"]
    text = rng.choice([""] + gaps)
    for token, behind in zip(tokens, tokens[1:] + [""]):
        needed = token.isalnum() and behind.isalnum()
        text += token + rng.choice(gaps if needed else gaps + ["", ""])
    return text + rng.choice(["", " ", "\n", "# end", "#"])


def is_right(text):
    """A second way to tell texts of drafts, by their tokens; numbers and equal rows are not looked at."""
    if any(sign != "\n" and (not " " <= sign <= "~" or ord(sign) == 37) for sign in text):
        return False
    tokens = re.findall("[A-Za-z0-9]+|[^ \n]", re.sub("#[^\n]*", " ", text)) + [""]
    try:
        return is_right_row(tokens)
    except IndexError:
        return False


def is_right_row(tokens):
    def is_small(name):
        return re.fullmatch("[a-z][A-Za-z0-9]{0,19}", name) is not None

    def is_capital(name):
        return re.fullmatch("[A-Z][A-Za-z0-9]{0,19}", name) is not None

    def row_from(at):
        names = [tokens[at]]
        while tokens[at + 1] == ",":
            at += 2
            names.append(tokens[at])
        return names, at + 1

    terminals, at = row_from(1)
    if tokens[0] != "tokens" or tokens[at] != ";" or len(set(terminals)) < len(terminals):
        return False
    if not all(is_small(name) for name in terminals):
        return False
    at += 1
    used = []
    while tokens[at] in ("left", "right", "none"):
        names, at = row_from(at + 1)
        used += names
        if tokens[at] != ";":
            return False
        at += 1
    if len(set(used)) < len(used) or not set(used) <= set(terminals):
        return False
    if tokens[at] != "start" or not is_capital(tokens[at + 1]) or tokens[at + 2] != ";":
        return False
    wanted, told = {tokens[at + 1]}, []
    at += 3

    def is_symbol(name):
        if is_capital(name):
            wanted.add(name)
        return is_capital(name) or name in terminals

    while tokens[at] != "":
        if not is_capital(tokens[at]) or tokens[at + 1] != "=":
            return False
        told.append(tokens[at])
        at += 1
        while tokens[at] in ("=", "|"):
            at += 1
            while tokens[at].isalnum():
                if not is_symbol(tokens[at]):
                    return False
                at += 1
                if tokens[at] == "/":
                    if not is_symbol(tokens[at + 1]) or tokens[at + 2] not in ("*", "+"):
                        return False
                    at += 3
                elif tokens[at] in ("*", "+", "?"):
                    at += 1
            if tokens[at] == "^":
                if tokens[at + 1] not in terminals:
                    return False
                at += 2
            if tokens[at] == "@":
                if not is_small(tokens[at + 1]):
                    return False
                at += 2
        if tokens[at] != ";":
            return False
        at += 1
    return len(set(told)) == len(told) and wanted <= set(told)


def goes_on(text):
    """Whether some of very many things can be put behind a text so that it is right."""
    first = re.sub("#[^\n]*", " ", text).split(";")[0]
    terminals = re.findall("[a-z][A-Za-z0-9]*", first)[1:]
    word = re.search("[A-Za-z0-9]*$", text).group()
    if "#" in text.split("\n")[-1]:
        begins = ["\n"]
    else:
        known = ["tokens", "left", "right", "none", "start"] + terminals
        begins = [name[len(word):] for name in known if name.startswith(word)] + ["", "q", "q7", "Q", "Q7"]
    wholes = ["tokens q9 ; start Q9 ; Q9 = ;", "@ q9 ;"]
    wholes += ["left %s ; start Q9 ; Q9 = ;" % name for name in terminals]
    wholes += [rest % name for name in terminals for rest in ("/ %s * ;", "^ %s ;")]
    ends = {" ".join(whole.split(" ")[at:]) for whole in wholes for at in range(len(whole.split(" ")) + 1)}
    for begin in sorted(set(begins)):
        for end in sorted(ends):
            whole = text + begin + " " * bool(end) + end
            plain = re.sub("#[^\n]*", " ", whole)
            used = set(re.findall("(?<![A-Za-z0-9])[A-Z][A-Za-z0-9]*", plain))
            told = set(re.findall("(?<![A-Za-z0-9])([A-Z][A-Za-z0-9]*)[ \n]*=", plain))
            if is_right(whole + "".join("\n%s = ;" % name for name in sorted(used - told))):
                return True
    return False


class Printing(unittest.TestCase):
    def test_spaces(self):
        draft = (
            ("a", "b"),
            (("left", ("a",)), ("none", ("b",))),
            "S",
            (
                ("S", (
                    ((), None, None), (("a", ("*", "A"), ("+", "b"), ("?", "A")), "b", "act"),
                    (("a",), "a", None), ((("*", "A", "b"), ("+", "a", "A"), "b"), None, "x"),
                    (("b",), None, None),
                )),
                ("A", (((), "b", "y"), (("A",), None, None), (("a", "A"), None, None))),
                ("B", (((), None, None),)),
            ),
        )
        text = (
            "tokens a, b;\nleft a;\nnone b;\nstart S;\n"
            "S =\n  | a A* b+ A? ^b @act\n  | a ^a\n  | A/b* a/A+ b @x\n  | b;\n"
            "A = ^b @y\n  | A\n  | a A;\nB =;\n"
        )
        self.assertEqual(print_grammar(draft), text)
        self.assertEqual(read_grammar(text), draft)

    def test_empty_alternative_last(self):
        draft = (("a",), (), "S", (("S", ((("a",), None, None), ((), None, None))),))
        self.assertEqual(print_grammar(draft), "tokens a;\nstart S;\nS = a\n  |;\n")

    def test_there_and_back(self):
        for draft in random_drafts(31, 300):
            text = print_grammar(draft)
            self.assertEqual(read_grammar(text), draft)
            self.assertNotIn(" \n", text)
            self.assertTrue(text.endswith(";\n"))
            self.assertEqual(text.count("\n"), len(re.findall("[;|]", text)))
            self.assertEqual(re.findall("[A-Za-z0-9]+|[^ \n]", text), tokens_of(draft))

    def test_edges(self):
        for sizes in (
            {"terminals": 40, "levels": 40}, {"lines": 40, "alternatives": 80}, {"alternatives": 80}, {"items": 8},
            {"terminals": 1}, {"items": 0},
        ):
            draft = draft_with(**sizes)
            self.assertEqual(read_grammar(print_grammar(draft)), draft)

    def test_refused(self):
        draft = draft_with()
        before = frozen(draft)
        check_refusals(self, print_grammar, (draft,), (InvalidDraft,), (nothing,))
        self.assertEqual(frozen(draft), before)
        self.assertIsInstance(error_of(print_grammar, draft_with(items=9)), InvalidDraft)


class Reading(unittest.TestCase):
    def test_spread_out(self):
        rng = random.Random(32)
        for draft in random_drafts(33, 300):
            text = spread_out(rng, tokens_of(draft))
            self.assertEqual(read_grammar(text), draft, text)

    def test_close_together(self):
        self.assertEqual(
            read_grammar("tokens a,b;left b,a;start S;S=a/b*b?^a@x|S+;"),
            (("a", "b"), (("left", ("b", "a")),), "S",
             (("S", (((("*", "a", "b"), ("?", "b")), "a", "x"), ((("+", "S"),), None, None))),)),
        )
        self.assertEqual(
            read_grammar("tokens#\nstart#\n;start#\nStart#\n;Start=start start#"[:-1] + ";"),
            (("start",), (), "Start", (("Start", ((("start", "start"), None, None),)),)),
        )

    def test_names_that_are_words(self):
        text = "tokens tokens, left, start, none; left left; none none; start Start; Start = start left @tokens ^left;"
        self.assertEqual(refused_at(text), text.index("^"))
        text = "tokens tokens, left, start, none; left left; none none; start Start; Start = start left ^left @tokens;"
        draft = read_grammar(text)
        self.assertEqual(draft[1], (("left", ("left",)), ("none", ("none",))))
        self.assertEqual(draft[3], (("Start", ((("start", "left"), "left", "tokens"),)),))

    def test_length(self):
        text = "tokens a; start S; S = a;"
        for filler in (" ", "\n"):
            self.assertIsNone(error_of(read_grammar, text + filler * (4000 - len(text))))
            self.assertIsInstance(error_of(read_grammar, text + filler * (4001 - len(text))), InvalidText)
        self.assertIsNone(error_of(read_grammar, text + "#" + "x" * (3999 - len(text))))
        self.assertIsInstance(error_of(read_grammar, "\t" * 4001), InvalidText)
        self.assertIsInstance(error_of(read_grammar, "\t" * 4000), BadGrammar)

    def test_refused_kinds(self):
        check_refusals(self, read_grammar, (T,), (InvalidText,), (lambda value: isinstance(value, str),))

    def test_same_again(self):
        first = read_grammar(T)
        read_grammar("tokens a; start S; S = a;")
        self.assertEqual(read_grammar(T), first)


class Refusing(unittest.TestCase):
    def check(self, text, line, sign):
        error = error_of(read_grammar, text)
        self.assertIs(type(error), BadGrammar, text)
        self.assertEqual((error.line, error.sign), (line, sign), text)

    def texts(self):
        rng = random.Random(34)
        found = [T]
        for draft in random_drafts(35, 12):
            found.append(print_grammar(draft))
            found.append(spread_out(rng, tokens_of(draft)))
        return found

    def test_cut(self):
        for text in self.texts():
            for at in range(len(text)):
                told = refused_at(text[:at])
                self.assertEqual(told, None if is_right(text[:at]) else at, text[:at])

    def test_strange_signs(self):
        for text in self.texts():
            for at in range(len(text) + 1):
                for sign in ("\t", "%", "\u007f", "\u00e9", "\r"):
                    self.assertEqual(refused_at(text[:at] + sign + text[at:]), at, text)

    def test_places(self):
        self.check("", 1, 1)
        self.check("\n", 2, 1)
        self.check("# remark", 1, 9)
        self.check("tokens", 1, 7)
        self.check("tokens;", 1, 7)
        self.check("tokens 1", 1, 8)
        self.check("tokensa;", 1, 7)
        self.check("token a;", 1, 6)
        self.check("tokens A;", 1, 8)
        self.check("tokens a,;", 1, 10)
        self.check("tokens a b;", 1, 10)
        self.check("tokens a;", 1, 10)
        self.check("tokens a;\n\n  left b;", 3, 8)
        self.check("tokens a; start S;", 1, 19)
        self.check("tokens a; start s;", 1, 17)
        self.check("tokens a; startS;", 1, 16)
        self.check("tokens a; start S; S a;", 1, 22)
        self.check("tokens a; start S; S = a", 1, 25)
        self.check("tokens a; start S; S = a;; ", 1, 26)
        self.check("tokens a; start S; S = a; s = a;", 1, 27)
        self.check("tokens a; start S; S = a | | ; S = a;", 1, 33)
        self.check("tokens a; start S; S = = a;", 1, 24)

    def test_names(self):
        self.check("tokens " + LONG + "n;", 1, 28)
        self.check("tokens a; start S" + LONG + ";", 1, 37)
        self.check("tokens a; start S; S = @" + LONG + "n;", 1, 45)
        self.assertIsNone(error_of(read_grammar, "tokens " + LONG + "; start S; S = " + LONG + " @" + LONG + ";"))

    def test_terminals_twice(self):
        self.check("tokens a, a;", 1, 12)
        self.check("tokens a, a , b;", 1, 12)
        self.check("tokens a, a", 1, 12)
        self.check("tokens a, a\n;", 1, 12)
        self.check("tokens a, a#;", 1, 12)
        self.check("tokens " + LONG + ", " + LONG + ";", 1, 49)
        self.assertIsNone(error_of(read_grammar, "tokens a, ab; start S; S = ab;"))

    def test_untold_terminals(self):
        self.check("tokens ab; start S; S = a;", 1, 26)
        self.check("tokens ab; start S; S = ac;", 1, 26)
        self.check("tokens ab; start S; S = abc;", 1, 27)
        self.check("tokens ab; start S; S = ab/x*;", 1, 28)
        self.check("tokens ab; start S; S = ab ^b;", 1, 29)
        self.check("tokens ab; start S; S = ab ^S;", 1, 29)
        self.check("tokens ab; left b;", 1, 17)
        self.check("tokens ab; left S;", 1, 17)

    def test_levels(self):
        self.check("tokens a, b; left a, a;", 1, 22)
        self.check("tokens a, b; left a; right a;", 1, 28)
        self.check("tokens a, ab; left a; right a;", 1, 30)
        self.check("tokens a, ab; left a, a, b;", 1, 24)
        self.check("tokens a, ab; left ab, ab;", 1, 25)
        self.check("tokens a; left a, ", 1, 17)
        self.check("tokens a; left a; left a;", 1, 19)
        self.check("tokens a; left a; right", 1, 19)
        self.check("tokens a; left;", 1, 15)
        self.check("tokens a; leftx;", 1, 15)
        self.check("tokens a; up a;", 1, 11)
        self.check("tokens a; none a; none", 1, 19)
        self.assertIsNone(error_of(read_grammar, "tokens a, ab; left ab; right a; start S; S = ;"))

    def test_lines_twice(self):
        self.check("tokens a; start S; S = a; S = a;", 1, 28)
        self.check("tokens a; start S; S = a; S= a;", 1, 28)
        self.check("tokens a; start S; S = a; S", 1, 28)
        name = "N" * 20
        self.check("tokens a; start " + name + "; " + name + " = ; " + name + " = ;", 1, 83)
        self.assertIsNone(error_of(read_grammar, "tokens a; start S; S = a; S1 = a;"))

    def test_without_a_line(self):
        self.check("tokens a; start S; S = A;", 1, 26)
        self.check("tokens a; start S; S = A;\n", 2, 1)
        self.check("tokens a; start S; S = a/A+; # no more", 1, 39)
        self.check("tokens a; start S; A = a;", 1, 26)
        self.check("tokens a; start S; S = A1; A = ;", 1, 33)

    def test_items(self):
        self.check("tokens a; start S; S = a**;", 1, 26)
        self.check("tokens a; start S; S = a*/a;", 1, 26)
        self.check("tokens a; start S; S = *;", 1, 24)
        self.check("tokens a; start S; S = a/a;", 1, 27)
        self.check("tokens a; start S; S = a/a?;", 1, 27)
        self.check("tokens a; start S; S = a/;", 1, 26)
        self.check("tokens a; start S; S = a/a a;", 1, 28)
        self.check("tokens a; start S; S = a, a;", 1, 25)
        self.check("tokens a; start S; S = a ^a a;", 1, 29)
        self.check("tokens a; start S; S = a ^a ^a;", 1, 29)
        self.check("tokens a; start S; S = a ^;", 1, 27)
        self.check("tokens a; start S; S = a @x a;", 1, 29)
        self.check("tokens a; start S; S = a @x ^a;", 1, 29)
        self.check("tokens a; start S; S = a @X;", 1, 27)
        self.check("tokens a; start S; S = a @;", 1, 27)
        self.check("tokens a; start S; S = a1;", 1, 25)

    def test_first_wrong_sign(self):
        rng = random.Random(36)
        signs = "abltSA,;=|*+?/^@# \nnx9"
        looked = 0
        for draft in random_drafts(37, 1500, (3, 2, 2, 2)):
            text = print_grammar(draft) if rng.random() < 0.5 else spread_out(rng, tokens_of(draft))
            if len(text) > 150:
                continue
            looked += 1
            at = rng.randrange(len(text))
            text = text[:at] + rng.choice(("", rng.choice(signs))) + text[at + rng.choice((0, 1, 1, 2)):]
            place = refused_at(text)
            self.assertEqual(place is None, is_right(text), text)
            if place is not None:
                self.assertTrue(place == 0 or goes_on(text[:place]), (text, place))
                self.assertTrue(place == len(text) or not goes_on(text[:place + 1]), (text, place))
        self.assertGreater(looked, 500)


class MoreThanTold(unittest.TestCase):
    def test_invalid_draft(self):
        names = [f"t{number}" for number in range(41)]
        many = "tokens " + ", ".join(names) + ";"
        lines = [f"S{number} = ;" for number in range(1, 41)]
        texts = [
            many + " start S; S = ;",
            many + " ".join(f" left {name};" for name in names) + " start S; S = ;",
            "tokens a; start S; S = ; " + " ".join(lines),
            "tokens a; start S; S = " + " a" * 9 + ";",
            "tokens a; start S; S = a | a;",
            "tokens a; start S; S = a | a ^a;",
            "tokens a; start S; S = | @x;",
            "tokens a; start S; S = a/S* | a | a/S*;",
            "tokens a, b; start S; S = " + "|".join(
                " ".join("ab"[number >> place & 1] for place in range(7)) for number in range(81)) + ";",
        ]
        for text in texts:
            self.assertLessEqual(len(text), 4000)
            self.assertIs(type(error_of(read_grammar, text)), InvalidDraft, text)
            self.assertIs(type(error_of(read_grammar, text + " 9")), BadGrammar, text)

    def test_just_enough(self):
        names = [f"t{number}" for number in range(40)]
        lines = [f"S{number} = ;" for number in range(1, 40)]
        texts = [
            "tokens " + ", ".join(names) + ";" + " ".join(f" left {name};" for name in names) + " start S; S = ;",
            "tokens a; start S; S = ; " + " ".join(lines),
            "tokens a; start S; S = " + " a" * 8 + ";",
            "tokens a, b; start S; S = " + "|".join(
                " ".join("ab"[number >> place & 1] for place in range(7)) for number in range(80)) + ";",
        ]
        for text in texts:
            self.assertTrue(is_draft(read_grammar(text)))

    def test_forty_levels_with_more_terminals(self):
        names = [f"t{number}" for number in range(41)]
        text = "tokens " + ", ".join(names[:40]) + ";" + "".join(f" left {name};" for name in names[:40])
        self.assertIsNone(error_of(read_grammar, text + " start S; S = ;"))
        self.assertIs(type(error_of(read_grammar, text + " left t0; start S; S = ;")), BadGrammar)


if __name__ == "__main__":
    unittest.main()
