"""Regular texts, their trees, and the words that these match."""

from shiftroads.errors import BadRegex, InvalidNumber, InvalidRegex, InvalidText
from shiftroads.values import CHARACTERS, is_index, is_letters, is_text, is_tuple, is_word_part

LONGEST_REGEX = 200
LONGEST_TEXT = 4000
MOST_BRACKETS = 8
MOST_DEPTH = 40
REPEATS = {"*": "many", "+": "some", "?": "maybe"}


def is_regex(value):
    """Tell whether any value is a regular tree, nested at most 40 deep."""
    return is_nested(value, MOST_DEPTH)


def is_nested(value, depth):
    """Tell whether a value is a regular tree, nested at most so deep."""
    if depth == 0 or not is_tuple(value, 2, 2):
        return False
    word, inner = value
    if word == "letters":
        return is_letters(inner)
    if word in ("row", "or"):
        if not isinstance(inner, tuple) or (word == "or" and len(inner) < 2):
            return False
        return all(is_nested(tree, depth - 1) for tree in inner)
    return word in ("many", "some", "maybe") and is_nested(inner, depth - 1)


def read_regex(text):
    """Return the tree of a regular text."""
    if not is_text(text, LONGEST_REGEX):
        raise InvalidText("no string of at most 200 characters")
    return rule_tree(text, 0)


def rule_tree(text, rule):
    """Return the tree of a regular text, which is that of the rule with an index."""
    reader = RegexReader(text, rule)
    tree = reader.read_choice()
    if reader.place < len(text):
        reader.refuse(reader.place)
    return tree


def regex_ends(tree, text, at):
    """Return the ascending list of the places where words end that a tree matches from a place of a text on."""
    if not is_regex(tree):
        raise InvalidRegex("no regular tree")
    check_text(text)
    if not is_index(at, len(text) + 1):
        raise InvalidNumber("no place of the text")
    net = [("", [])]
    nodes = free_nodes(net, [add_tree(net, tree, 0)])
    ends = []
    place = at
    while nodes:
        if nodes[0] == 0:
            ends.append(place)
        letter = text[place:place + 1]
        behind = []
        for node in nodes:
            if letter != "" and letter in net[node][0]:
                behind.extend(net[node][1])
        nodes = free_nodes(net, behind)
        place += 1
    return ends


def check_text(text):
    """Raise InvalidText for what is no text."""
    if not is_text(text, LONGEST_TEXT):
        raise InvalidText("no string of at most 4,000 characters")


class RegexReader:
    """Goes through a regular text, and refuses it at the first place where no regular text goes on."""

    def __init__(self, text, rule):
        self.text = text
        self.rule = rule
        self.place = 0
        self.depth = 0

    def refuse(self, place):
        """Raise BadRegex at a place."""
        raise BadRegex(self.rule, place)

    def peek(self):
        """Return the character at the place that is reached, or the empty string at the end."""
        return self.text[self.place:self.place + 1]

    def read_sign(self, sign):
        """Read a character that must stand here."""
        if self.peek() != sign:
            self.refuse(self.place)
        self.place += 1

    def read_choice(self):
        """Read a choice up to a closing bracket or the end."""
        rows = [self.read_row()]
        while self.peek() == "|":
            self.place += 1
            rows.append(self.read_row())
        return rows[0] if len(rows) == 1 else ("or", tuple(rows))

    def read_row(self):
        """Read a row up to a stroke, a closing bracket or the end."""
        trees = []
        while self.peek() not in ("", "|", ")"):
            tree = self.read_atom()
            if self.peek() in ("*", "+", "?"):
                tree = (REPEATS[self.peek()], tree)
                self.place += 1
            trees.append(tree)
        return trees[0] if len(trees) == 1 else ("row", tuple(trees))

    def read_atom(self):
        """Read an atom."""
        sign = self.peek()
        if sign == "(":
            return self.read_brackets()
        if sign == "[":
            return ("letters", self.read_class())
        if sign == ".":
            self.place += 1
            return ("letters", CHARACTERS[1:])
        return ("letters", self.read_one("*+?"))

    def read_brackets(self):
        """Read a choice in brackets."""
        if self.depth == MOST_BRACKETS:
            self.refuse(self.place)
        self.place += 1
        self.depth += 1
        tree = self.read_choice()
        self.read_sign(")")
        self.depth -= 1
        return tree

    def read_class(self):
        """Read items in square brackets, and return the string of the letters that they tell."""
        self.place += 1
        others = self.peek() == "^"
        if others:
            self.place += 1
        found = {}
        while self.peek() != "]" or not found:
            for sign in self.read_span():
                found[sign] = True
        letters = "".join([sign for sign in CHARACTERS if (sign in found) != others])
        if letters == "":
            self.refuse(self.place)
        self.place += 1
        return letters

    def read_span(self):
        """Read an item of square brackets, and return the list of its characters."""
        low = self.read_one("]-")
        if self.peek() != "-":
            return [low]
        self.place += 1
        begin = self.place
        high = self.read_one("]-")
        if high < low:
            self.refuse(begin)
        return [sign for sign in CHARACTERS if low <= sign <= high]

    def read_one(self, barred):
        """Read a character that is none of those that are barred, or an escaped one, and return what it means."""
        sign = self.peek()
        if sign == "" or sign in barred:
            self.refuse(self.place)
        self.place += 1
        if sign != "\\":
            return sign
        sign = self.peek()
        if sign == "" or (is_word_part(sign) and sign != "n"):
            self.refuse(self.place)
        self.place += 1
        return "\n" if sign == "n" else sign


def add_tree(net, tree, behind):
    """Add the nodes of a regular tree to a net, and return the one from which it leads to a node behind it.

    A node is a pair (letters, nodes): by one of the letters, or without one if there are none,
    it leads to these nodes.
    """
    word, inner = tree
    if word == "letters":
        return add_node(net, inner, [behind])
    if word == "row":
        for part in inner[::-1]:
            behind = add_tree(net, part, behind)
        return behind
    if word == "or":
        return add_node(net, "", [add_tree(net, part, behind) for part in inner])
    if word == "maybe":
        return add_node(net, "", [behind, add_tree(net, inner, behind)])
    node = add_node(net, "", [behind])
    begin = add_tree(net, inner, node)
    net[node][1].append(begin)
    return begin if word == "some" else node


def add_node(net, letters, nodes):
    """Add a node to a net, and return its number."""
    net.append((letters, nodes))
    return len(net) - 1


def free_nodes(net, nodes):
    """Return the ascending list of the nodes with letters, or without ways, to which nodes lead without a letter."""
    seen = set()
    waiting = list(nodes)
    while waiting:
        node = waiting.pop()
        if node not in seen:
            seen.add(node)
            if net[node][0] == "":
                waiting.extend(net[node][1])
    return [node for node in sorted(seen) if net[node][0] != "" or not net[node][1]]
