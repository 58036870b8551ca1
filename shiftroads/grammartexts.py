"""Drafts as texts: printed, and read or refused at the first sign that cannot stand."""

from shiftroads.drafts import SIDES, check_draft, is_draft
from shiftroads.errors import BadGrammar, InvalidDraft, InvalidText
from shiftroads.values import LONGEST_NAME, is_name, is_word_part

LONGEST_GRAMMAR = 4000
PERCENT = 37


def print_grammar(draft):
    """Return the printed text of a draft."""
    check_draft(draft)
    terminals, levels, start, lines = draft
    rows = [["tokens"] + with_commas(terminals)]
    for side, names in levels:
        rows.append([side] + with_commas(names))
    rows.append(["start", start])
    for left, alternatives in lines:
        row = [left, "="]
        for number, alternative in enumerate(alternatives):
            if number > 0:
                row.append("|")
            row.extend(alternative_tokens(alternative))
        rows.append(row)
    return "".join([joined(row + [";"]) + "\n" for row in rows])


def with_commas(names):
    """Return the list of some names with a comma between each two."""
    tokens = [names[0]]
    for name in names[1:]:
        tokens.extend([",", name])
    return tokens


def alternative_tokens(alternative):
    """Return the list of the tokens of an alternative."""
    items, mark, action = alternative
    tokens = []
    for item in items:
        if isinstance(item, str):
            tokens.append(item)
        elif len(item) == 2:
            tokens.extend([item[1], item[0]])
        else:
            tokens.extend([item[1], "/", item[2], item[0]])
    if mark is not None:
        tokens.extend(["^", mark])
    if action is not None:
        tokens.extend(["@", action])
    return tokens


def joined(tokens):
    """Return the printed line, or lines, of some tokens."""
    text = tokens[0]
    for last, token in zip(tokens, tokens[1:]):
        if token == "|":
            text += "\n  |"
        elif token in (",", ";", "*", "+", "?", "/") or last in ("/", "^", "@"):
            text += token
        else:
            text += " " + token
    return text


def read_grammar(text):
    """Return the draft of a text."""
    if not isinstance(text, str) or len(text) > LONGEST_GRAMMAR:
        raise InvalidText("no string of at most 4,000 signs")
    draft = GrammarReader(text).read_draft()
    if not is_draft(draft):
        raise InvalidDraft("more than a draft may have, or equal rows of items")
    return draft


class GrammarReader:
    """Goes through a text sign by sign, and refuses it where no right text goes on."""

    def __init__(self, text):
        self.text = text
        self.place = 0

    def refuse(self):
        """Raise BadGrammar at the place that is reached."""
        ahead = self.text[:self.place]
        raise BadGrammar(ahead.count("\n") + 1, self.place - ahead.rfind("\n"))

    def peek(self):
        """Return the sign at the place that is reached, or the empty string at the end."""
        return self.text[self.place:self.place + 1]

    def skip(self):
        """Go on behind spaces, line feeds and remarks."""
        while self.peek() in (" ", "\n", "#"):
            if self.peek() == "#":
                self.skip_remark()
            else:
                self.place += 1

    def skip_remark(self):
        """Go on to the end of the remark that begins here."""
        while self.peek() not in ("", "\n"):
            sign = self.peek()
            # A text with a percent sign is none, wherever the sign stands.
            if not " " <= sign <= "~" or ord(sign) == PERCENT:
                self.refuse()
            self.place += 1

    def read_mark(self, signs):
        """Read one of some signs, behind what may be skipped, and return it."""
        self.skip()
        sign = self.peek()
        if sign == "" or sign not in signs:
            self.refuse()
        self.place += 1
        return sign

    def read_known(self, options):
        """Read one of some words, behind what may be skipped, and return it."""
        self.skip()
        begin = self.place
        while is_word_part(self.peek()):
            word = self.text[begin:self.place + 1]
            if not any(option.startswith(word) for option in options):
                self.refuse()
            self.place += 1
        word = self.text[begin:self.place]
        if word not in options:
            self.refuse()
        return word

    def read_fresh(self, small, taken):
        """Read a name, behind what may be skipped, that is not taken, and return it.

        It begins with a small letter if small is True, otherwise with a capital one.
        """
        self.skip()
        begin = self.place
        while is_word_part(self.peek()):
            name = self.text[begin:self.place + 1]
            if not is_name(name) or name[0].islower() != small:
                self.refuse()
            # A name of full length cannot become another one any more.
            if len(name) == LONGEST_NAME and name in taken:
                self.refuse()
            self.place += 1
        name = self.text[begin:self.place]
        if name == "" or name in taken:
            self.refuse()
        return name

    def read_draft(self):
        """Read the whole text, and return its draft, however many things it has."""
        self.read_known(("tokens",))
        terminals = self.read_terminals()
        levels = self.read_levels(terminals)
        start = self.read_fresh(False, ())
        self.read_mark(";")
        return (terminals, levels, start, self.read_lines(terminals, start))

    def read_terminals(self):
        """Read unlike terminals up to the semicolon."""
        names = []
        sign = ","
        while sign == ",":
            names.append(self.read_fresh(True, names))
            sign = self.read_mark(",;")
        return tuple(names)

    def read_levels(self, terminals):
        """Read the levels and the word behind them."""
        levels = []
        free = list(terminals)
        side = self.read_side(free)
        while side != "start":
            names = []
            sign = ","
            while sign == ",":
                names.append(self.read_known(free))
                free.remove(names[-1])
                sign = self.read_mark(",;" if free else ";")
            levels.append((side, tuple(names)))
            side = self.read_side(free)
        return tuple(levels)

    def read_side(self, free):
        """Read the word of a level, for which some terminal must be free, or the one behind all levels."""
        return self.read_known(SIDES + ("start",) if free else ("start",))

    def read_lines(self, terminals, start):
        """Read lines up to the end of the text; each nonterminal must have one."""
        lines = []
        names = []
        wanted = [start]
        self.skip()
        while self.peek() != "":
            names.append(self.read_fresh(False, names))
            self.read_mark("=")
            lines.append((names[-1], self.read_alternatives(terminals, wanted)))
            self.skip()
        if not all(name in names for name in wanted):
            self.refuse()
        return tuple(lines)

    def read_alternatives(self, terminals, wanted):
        """Read alternatives up to the semicolon, and add the nonterminals in them to those that are wanted."""
        found = []
        sign = "|"
        while sign == "|":
            items = self.read_items(terminals, wanted)
            mark = None
            action = None
            sign = self.read_mark("^@|;")
            if sign == "^":
                mark = self.read_known(terminals)
                sign = self.read_mark("@|;")
            if sign == "@":
                action = self.read_fresh(True, ())
                sign = self.read_mark("|;")
            found.append((items, mark, action))
        return tuple(found)

    def read_items(self, terminals, wanted):
        """Read the items of an alternative."""
        items = []
        self.skip()
        while is_word_part(self.peek()):
            items.append(self.read_item(terminals, wanted))
            self.skip()
        return tuple(items)

    def read_item(self, terminals, wanted):
        """Read an item."""
        symbol = self.read_symbol(terminals, wanted)
        self.skip()
        if self.peek() not in ("*", "+", "?", "/"):
            return symbol
        sign = self.read_mark("*+?/")
        if sign != "/":
            return (sign, symbol)
        parting = self.read_symbol(terminals, wanted)
        return (self.read_mark("*+"), symbol, parting)

    def read_symbol(self, terminals, wanted):
        """Read a symbol, and add it to those that are wanted if it is a nonterminal."""
        self.skip()
        if not self.peek().isupper():
            return self.read_known(terminals)
        wanted.append(self.read_fresh(False, ()))
        return wanted[-1]
