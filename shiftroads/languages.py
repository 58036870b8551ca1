"""Languages built from the text of a grammar and the rules of a lexer, which read texts from end to end."""

from shiftroads.builds import SORTS, built
from shiftroads.checks import useless_rules
from shiftroads.conflictpapers import paper_of
from shiftroads.conflicts import conflicts, settled, settled_rows
from shiftroads.errors import BadText, InvalidWord, UnknownNames, Useless
from shiftroads.grammars import LONGEST_ROW
from shiftroads.grammartexts import read_grammar
from shiftroads.lexers import Lexer
from shiftroads.parsers import parse
from shiftroads.sugar import plain_grammar, rule_notes, sweet_tree
from shiftroads.tables import table_of


class Language:
    """A grammar with a lexer, an automaton and a table, by which texts are read."""

    def __init__(self, text, rules, sort, in_order):
        self.draft = read_grammar(text)
        self.grammar = plain_grammar(self.draft)
        self.lexer = Lexer(rules)
        if sort not in SORTS:
            raise InvalidWord("no sort")
        if in_order is not True and in_order is not False:
            raise InvalidWord("neither True nor False")
        check_rules(self.grammar)
        check_names(self.grammar, rules)
        self.machine = built(self.grammar, sort)
        precedence = precedence_of(self.draft)
        rows = settled_rows(self.grammar, self.machine, precedence, in_order)
        self.table = table_of(self.grammar, self.machine[1], rows)
        self.clashes = conflicts(self.grammar, self.machine)
        self.left = settled(self.grammar, self.machine, precedence)

    def tokens(self, text):
        """Return the tuple of the tokens of a text."""
        return self.lexer.tokens(text)

    def read(self, text):
        """Return the tree of a text, or where it is unread, has many tokens, is refused, or is too long."""
        try:
            tokens = self.lexer.tokens(text)
        except BadText as error:
            return ("unread", error.begin, error.at)
        if len(tokens) > LONGEST_ROW:
            return ("many", tokens[LONGEST_ROW][2])
        answer = parse(self.grammar, self.table, tuple([name for name, _, _ in tokens]))
        if answer[0] == "tree":
            return answer
        place = tokens[answer[1]][2] if answer[1] < len(tokens) else len(text)
        return (answer[0], place) + answer[2:]

    def sweet(self, text):
        """Return the same as read, but with the sweet tree in the place of the tree."""
        answer = self.read(text)
        return ("tree", sweet_tree(self.draft, answer[1])) if answer[0] == "tree" else answer

    def papers(self):
        """Return the list of the papers of all conflicts, in order."""
        return [paper_of(self.grammar, self.machine, clash) for clash in self.clashes]


def check_rules(grammar):
    """Raise Useless if a grammar has useless rules."""
    useless = useless_rules(grammar)
    if useless:
        raise Useless(useless)


def check_names(grammar, rules):
    """Raise UnknownNames if rules of a lexer have names that are no terminals of a grammar."""
    unknown = {name for name, _ in rules if name is not None and name not in grammar[0]}
    if unknown:
        raise UnknownNames(tuple(sorted(unknown)))


def precedence_of(draft):
    """Return the precedence that the levels and the marks of a draft tell."""
    levels = tuple([(side, tuple(sorted(names))) for side, names in draft[1]])
    known = [name for _, names in levels for name in names]
    marks = [(rule, mark) for rule, (mark, _) in enumerate(rule_notes(draft)) if mark in known]
    return (levels, tuple(marks))
