"""The errors of the package; each carries what it was made with."""


class RoadError(ValueError):
    """The base of all errors of this package."""


class InvalidGrammar(RoadError):
    """A value is no grammar."""


class InvalidSymbols(RoadError):
    """A value is no symbol, or no row of symbols, of the grammar."""


class InvalidRow(RoadError):
    """A value is no row of tokens of the grammar."""


class InvalidTree(RoadError):
    """A value is no tree of the kind that is asked for."""


class InvalidNumber(RoadError):
    """A value is no integer that may stand here."""


class TooMany(RoadError):
    """More things came up than the limit allows."""

    def __init__(self, limit):
        self.limit = limit


class InvalidDraft(RoadError):
    """A value is no draft."""


class InvalidText(RoadError):
    """A value is no text, or no word."""


class BadGrammar(RoadError):
    """The text of a grammar is refused at a sign of a line, both counted from 1."""

    def __init__(self, line, sign):
        self.line = line
        self.sign = sign


class InvalidClaim(RoadError):
    """A value is no claim about the grammar."""


class InvalidLadder(RoadError):
    """A value is no ladder, or one that does not show what is asked for."""


class InvalidRegex(RoadError):
    """A value is no regular tree, or no tuple of such."""


class InvalidMachine(RoadError):
    """A value is no machine."""


class InvalidRules(RoadError):
    """A value is no tuple of rules of a lexer."""


class BadRegex(RoadError):
    """The regular text of a rule is refused at a place."""

    def __init__(self, rule, at):
        self.rule = rule
        self.at = at


class EmptyWord(RoadError):
    """A rule of a lexer matches the empty word."""

    def __init__(self, rule):
        self.rule = rule


class BadText(RoadError):
    """No word begins at a place of a text; no word goes on behind another place."""

    def __init__(self, begin, at):
        self.begin = begin
        self.at = at


class InvalidItems(RoadError):
    """A value is no ascending tuple of items of the grammar."""


class InvalidItem(RoadError):
    """A value is no item of the grammar."""


class InvalidSpine(RoadError):
    """A value is no spine of the grammar."""


class InvalidJoining(RoadError):
    """A value is no joining of canonical states."""


class InvalidWord(RoadError):
    """A value is none of the words, or choices, that may stand here."""


class InvalidToken(RoadError):
    """A value is no token."""


class InvalidPrecedence(RoadError):
    """A value is no precedence."""


class InvalidDeed(RoadError):
    """A value is no deed."""


class InvalidConflict(RoadError):
    """A value is no conflict of the machine."""


class UnlikeLeaves(RoadError):
    """Two trees have unlike leaves."""


class Open(RoadError):
    """A conflict stays open in a state for a token."""

    def __init__(self, state, token):
        self.state = state
        self.token = token


class Unproductive(RoadError):
    """A nonterminal derives no row of terminals."""

    def __init__(self, symbol):
        self.symbol = symbol


class InvalidTable(RoadError):
    """A value is no table of the grammar."""


class InvalidCosts(RoadError):
    """A value is no costs."""


class InvalidSteps(RoadError):
    """A value is no tuple of steps."""


class NoSentence(RoadError):
    """The grammar has no sentence."""


class Endless(RoadError):
    """A row has endlessly many trees."""


class InvalidScheme(RoadError):
    """A value is no scheme of the grammar."""


class InvalidWorths(RoadError):
    """A value is no tuple of worths of the length that is asked for."""


class Useless(RoadError):
    """A grammar has useless rules."""

    def __init__(self, rules):
        self.rules = rules


class UnknownNames(RoadError):
    """Rules of a lexer have names that are no terminals."""

    def __init__(self, names):
        self.names = names
