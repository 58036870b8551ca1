"""Lexers, which split texts into tokens, and the lines and columns of places in texts."""

from shiftroads.errors import BadText, EmptyWord, InvalidNumber, InvalidRules
from shiftroads.machines import least_machine, letter_targets, word_machine
from shiftroads.regexes import LONGEST_REGEX, check_text, regex_ends, rule_tree
from shiftroads.values import is_index, is_terminal_name, is_text, is_tuple

MOST_RULES = 40


class Lexer:
    """Takes the longest words that its rules match, one behind the other."""

    def __init__(self, rules):
        if not is_tuple(rules, 1, MOST_RULES) or not all(is_rule(rule) for rule in rules):
            raise InvalidRules("no tuple of 1 to 40 rules of a lexer")
        trees = tuple([word_tree(text, rule) for rule, (_, text) in enumerate(rules)])
        self.rules = rules
        self.machine = least_machine(word_machine(trees))
        self.targets = letter_targets(self.machine)

    def longest(self, text, at):
        """Return the first rule of the longest word from a place on, and the place behind it, or None."""
        check_text(text)
        check_place(text, at)
        rule, end, _ = self.run_from(text, at)
        return None if rule == -1 else (rule, end)

    def tokens(self, text):
        """Return the tuple of the tokens of a text."""
        check_text(text)
        found = []
        begin = 0
        while begin < len(text):
            rule, end, stop = self.run_from(text, begin)
            if rule == -1:
                raise BadText(begin, stop)
            if self.rules[rule][0] is not None:
                found.append((self.rules[rule][0], text[begin:end], begin))
            begin = end
        return tuple(found)

    def run_from(self, text, begin):
        """Return the rule and the end of the longest word from a place on, and the place where the run stops.

        The rule is -1 if there is no word.
        """
        state = 0
        place = begin
        rule = -1
        end = begin
        while place < len(text) and text[place] in self.targets[state]:
            state = self.targets[state][text[place]]
            place += 1
            if self.machine[state][0] != -1:
                rule = self.machine[state][0]
                end = place
        return rule, end, place


def is_rule(value):
    """Tell whether a value is a pair of a name, or None, and of a string that may be a regular text."""
    if not is_tuple(value, 2, 2) or not is_text(value[1], LONGEST_REGEX):
        return False
    return value[0] is None or is_terminal_name(value[0])


def word_tree(text, rule):
    """Return the tree of the regular text of the rule with an index, which must not match the empty word."""
    tree = rule_tree(text, rule)
    if regex_ends(tree, "", 0):
        raise EmptyWord(rule)
    return tree


def check_place(text, at):
    """Raise InvalidNumber for what is no place of a text."""
    if not is_index(at, len(text) + 1):
        raise InvalidNumber("no place of the text")


def place_of(text, at):
    """Return the line and the column of a place of a text, both counted from 0."""
    check_text(text)
    check_place(text, at)
    ahead = text[:at]
    return (ahead.count("\n"), at - ahead.rfind("\n") - 1)
