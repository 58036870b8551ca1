"""Values, grammars and checks that the tests share."""

import random

from shiftroads.builds import built
from shiftroads.conflicts import settled_rows
from shiftroads.errors import RoadError, TooMany
from shiftroads.tables import table_of

G = (("num", "plus"), "S", (("S", ("S", "plus", "N")), ("S", ("N",)), ("N", ("num",))))
F = (("a", "b"), "S", (("S", ("A", "S", "b")), ("S", ()), ("A", ("a",)), ("A", ())))
C = (
    ("a", "b"),
    "S",
    (("S", ("A", "S", "a")), ("S", ("b",)), ("A", ()), ("B", ("A", "B")), ("S", ("B",)), ("D", ("a",))),
)


def nested(depth, as_list=False):
    value = [] if as_list else ()
    for _ in range(depth - 1):
        value = [value] if as_list else (value,)
    return value


def junk():
    """Values of all kinds; none is a grammar, a draft, a tree or anything else of the package."""
    return [
        0, 1, -1, 7, True, False, None, 10 ** 119, -(10 ** 119),
        "", "a", "S", "num", "N", "x" * 4000, "\t", "100%", "\u00e9", "a b", "9",
        [], [1], ["a"], (), ("a",), ("S",), (1,), (True,), (None,), ((),), ([],), ("%",),
        nested(100), nested(100, True), (("a",), "S", [("S", ())]), tuple(range(20000)), ["a"] * 20000,
        ("a",) * 401, ("num",) * 401, RoadError("x"), TooMany(3),
    ]


def frozen(value):
    """A picture of a value, to see whether it was changed."""
    return repr(value)


def error_of(function, *arguments):
    """The error that a call raises, or None."""
    try:
        function(*arguments)
    except Exception as error:
        return error
    return None


def check_refusals(case, function, good, errors, fine):
    """Each wrong argument raises its error, whatever stands behind it; nothing is changed.

    errors has an error for each argument (None for any value); fine tells, for each argument, whether
    a value may stand there.
    """
    case.assertIsNone(error_of(function, *good))
    for at, error in enumerate(errors):
        if error is None:
            continue
        for bad in junk():
            if fine[at](bad):
                continue
            for tail in (list(good[at + 1:]), [None] * (len(good) - at - 1), [bad] * (len(good) - at - 1)):
                arguments = list(good[:at]) + [bad] + tail
                before = frozen(arguments)
                told = error_of(function, *arguments)
                case.assertIs(type(told), error, (function.__name__, at, before[:200]))
                case.assertIsInstance(told, RoadError)
                case.assertIsInstance(told, ValueError)
                case.assertEqual(frozen(arguments), before)


def nothing(_):
    return False


ODD_LEAVES = (
    True, False, 1, 0, -1, None, "", "9a", "a_b", "a b", "%", "\u00e9a", "z" * 21, "Z" * 21, "zz", "Zz", (), [], ("a",),
)


def bent(value):
    """All values that come from one by bending it in one place."""
    found = [other for other in ODD_LEAVES if repr(other) != repr(value)]
    found.append(nested(90))
    if isinstance(value, tuple):
        found.append(list(value))
        found.append(value + ("zz",))
        for at, part in enumerate(value):
            found.append(value[:at] + value[at + 1:])
            found.append(value[:at] + (part,) + value[at:])
            if at:
                found.append(value[:at - 1] + (part, value[at - 1]) + value[at + 1:])
            for other in bent(part):
                found.append(value[:at] + (other,) + value[at + 1:])
    if isinstance(value, int) and not isinstance(value, bool):
        found.extend([value + 1, value - 1, bool(value), str(value), 10 ** 119])
    if isinstance(value, str):
        found.extend([value + "z", value[:-1], value.upper(), value.lower(), value + "%", value[::-1], [value]])
    return found


def is_plain_name(value, first):
    """A second way to tell names."""
    letters = "abcdefghijklmnopqrstuvwxyz"
    if not isinstance(value, str) or value == "" or len(value) > 20:
        return False
    if value[0] not in (letters if first == "small" else letters.upper()):
        return False
    return all(sign in letters + letters.upper() + "0123456789" for sign in value)


def names_in(value):
    if isinstance(value, tuple):
        return [name for part in value for name in names_in(part)]
    return [value]


def random_grammar(rng, most_right=3):
    """A small grammar, often with empty right sides, rings and nonterminals without trees."""
    terminals = tuple("abc"[:rng.randint(1, 3)])
    nonterminals = ["S", "A", "B", "D"][:rng.randint(1, 4)]
    symbols = list(terminals) + nonterminals * rng.randint(1, 2)
    rules = {}
    for left in nonterminals:
        rules[left, tuple(rng.choice(symbols) for _ in range(rng.randint(0, most_right)))] = True
    for _ in range(rng.randint(0, 6)):
        left = rng.choice(nonterminals)
        rules[left, tuple(rng.choice(symbols) for _ in range(rng.randint(0, most_right)))] = True
    order = list(rules)
    rng.shuffle(order)
    return (terminals, rng.choice(nonterminals), tuple(order))


def random_grammars(seed, count, most_right=3):
    rng = random.Random(seed)
    return [random_grammar(rng, most_right) for _ in range(count)]


def letters_of(grammar):
    return sorted({left for left, _ in grammar[2]})


def random_open_tree(rng, grammar, symbol, depth, chance=0.8):
    """A random open tree as (tree, leaves, parts), or a bare symbol where the depth ends."""
    rules = [(index, right) for index, (left, right) in enumerate(grammar[2]) if left == symbol]
    if not rules or depth == 0 or rng.random() > chance:
        return ((symbol,), (symbol,), [])
    index, right = rng.choice(rules)
    parts = [random_open_tree(rng, grammar, name, depth - 1, chance) for name in right]
    tree = (index,) + tuple(item for part in parts for item in part[0])
    leaves = tuple(leaf for part in parts for leaf in part[1])
    return (tree, leaves, [part[0] for part in parts])


def words_up_to(grammar, length):
    """For each nonterminal the set of its rows of terminals of at most a length: by growing the sets."""
    words = {left: set() for left, _ in grammar[2]}
    changed = True
    while changed:
        changed = False
        for left, right in grammar[2]:
            rows = {()}
            for symbol in right:
                ends = words[symbol] if symbol in words else {(symbol,)}
                rows = {row + end for row in rows for end in ends if len(row + end) <= length}
            if not rows <= words[left]:
                words[left] |= rows
                changed = True
    return words


def all_rows(terminals, length):
    rows = [()]
    found = [()]
    for _ in range(length):
        rows = [row + (terminal,) for row in rows for terminal in terminals]
        found.extend(rows)
    return found


def random_draft(rng, sizes=(4, 4, 3, 3)):
    """A random draft; its names may be words of the texts, or the beginnings of one another."""
    many_terminals, many_lines, many_alternatives, many_items = sizes
    small = ["tokens", "left", "right", "none", "start", "a", "ab", "abC", "t1", "t12", "b" * 19, "b" * 20, "leftx"]
    capital = ["S", "Start", "Tokens", "L1", "L2", "L", "Left", "A", "AB", "N" * 19, "N" * 20]
    rng.shuffle(small)
    rng.shuffle(capital)
    terminals = tuple(small[:rng.randint(1, many_terminals)])
    names = capital[:rng.randint(1, many_lines)]
    symbols = list(terminals) + names
    free = list(terminals)
    rng.shuffle(free)
    levels = []
    while free and rng.random() < 0.5:
        count = rng.randint(1, len(free))
        levels.append((rng.choice(("left", "right", "none")), tuple(free[:count])))
        free = free[count:]

    def item():
        one, other = rng.choice(symbols), rng.choice(symbols)
        return rng.choice((one, one, one, ("*", one), ("+", one), ("?", one), ("*", one, other), ("+", one, other)))

    lines = []
    for name in names:
        rows = {}
        for _ in range(rng.randint(1, many_alternatives)):
            items = tuple(item() for _ in range(rng.randint(0, many_items)))
            mark = rng.choice((None, None, rng.choice(terminals)))
            rows[items] = (items, mark, rng.choice((None, None, "act", "left", "tokens")))
        lines.append((name, tuple(rows.values())))
    return (terminals, tuple(levels), rng.choice(names), tuple(lines))


def random_drafts(seed, count, sizes=(4, 4, 3, 3)):
    rng = random.Random(seed)
    return [random_draft(rng, sizes) for _ in range(count)]


def draft_with(terminals=2, levels=0, lines=1, alternatives=1, items=1):
    """A draft with so many terminals, levels, lines, alternatives in all, and items in the first one."""
    names = tuple(f"t{number}" for number in range(terminals))
    told = tuple(("left", (name,)) for name in names[:levels])
    rows = [[(("t0",) * items, None, None)]] + [[((), None, None)] for _ in range(lines - 1)]
    for number in range(alternatives - lines):
        right = tuple(("t0", "S")[number >> place & 1] for place in range(7))
        rows[number % lines].append((right, None, None))
    told_lines = tuple(("S" if at == 0 else f"S{at}", tuple(row)) for at, row in enumerate(rows))
    return (names, told, "S", told_lines)


def trees_by_height(grammar, known):
    """A second way: the nonterminals with trees whose leaves are known symbols, by growing heights."""
    names = {left for left, _ in grammar[2]}
    found = set()
    for _ in range(len(names) + 1):
        found = {
            name for name in names
            if any(left == name and all(one in found or one in known for one in right) for left, right in grammar[2])
        }
    return found


def plain_steps(grammar, sort, rules=None):
    """A second way: the pairs of symbols of steps, of all, bare or left ones."""
    empties = trees_by_height(grammar, ())
    found = set()
    for left, right in grammar[2] if rules is None else rules:
        for place, symbol in enumerate(right):
            others = {"all": (), "left": right[:place], "bare": right[:place] + right[place + 1:]}[sort]
            if all(other in empties for other in others):
                found.add((left, symbol))
    return found


def closed_pairs(pairs):
    """The pairs of one or more steps, one behind the other."""
    names = sorted({name for pair in pairs for name in pair})
    found = set(pairs)
    for middle in names:
        for one in names:
            if (one, middle) in found:
                found |= {(one, other) for other in names if (middle, other) in found}
    return found


def chain_grammars():
    """Grammars with chains of 40 nonterminals, in both orders of the rules."""
    links = [(f"N{at}", (f"N{at + 1}",)) for at in range(39)]
    found = []
    for last in (("N39", ("a",)), ("N39", ()), ("N39", ("N39",)), ("N39", ("N0",)), ("N39", ("a", "N0"))):
        for order in (links + [last], [last] + links[::-1]):
            found.append((("a", "b"), "N0", tuple(order)))
            found.append((("a", "b"), "N20", tuple(order)))
    wide = tuple((name, right * 8) for name, right in links)
    found.append((("a",), "N0", wide + (("N39", ()),) + tuple((name, ()) for name, _ in links[::3])))
    return found


def random_regex(rng, letters, depth):
    """A random regular tree over some letters."""
    if depth == 0 or rng.random() < 0.25:
        return ("letters", "".join(sorted(rng.sample(letters, rng.randint(1, min(3, len(letters)))))))
    sort = rng.choice(("row", "row", "or", "many", "some", "maybe"))
    if sort in ("row", "or"):
        count = rng.randint(0 if sort == "row" else 2, 3)
        return (sort, tuple(random_regex(rng, letters, depth - 1) for _ in range(count)))
    return (sort, random_regex(rng, letters, depth - 1))


def words_and_beginnings(tree, most):
    """By the words of the document: the words of at most a length that a tree matches, and such beginnings of words."""
    sort, inner = tree
    if sort == "letters":
        return set(inner) if most else set(), {""} | (set(inner) if most else set())
    if sort == "row":
        words, begins = {""}, {""}
        for part in inner:
            more, more_begins = words_and_beginnings(part, most)
            begins |= {word + end for word in words for end in more_begins if len(word + end) <= most}
            words = {word + end for word in words for end in more if len(word + end) <= most}
        return words, begins
    if sort == "or":
        pairs = [words_and_beginnings(part, most) for part in inner]
        return set().union(*[pair[0] for pair in pairs]), set().union(*[pair[1] for pair in pairs])
    words, begins = words_and_beginnings(inner, most)
    if sort == "maybe":
        return words | {""}, begins | {""}
    found = {""}
    new = {""}
    while new:
        new = {one + word for one in new for word in words if len(one + word) <= most} - found
        found |= new
    begins = {one + end for one in found for end in begins if len(one + end) <= most}
    if sort == "some":
        found = {one + word for one in found for word in words if len(one + word) <= most}
    return found, begins


def all_words(letters, most):
    words, found = [""], [""]
    for _ in range(most):
        words = [word + letter for word in words for letter in letters]
        found.extend(words)
    return found


EG = (("b", "c"), "S", (("S", ("b", "S")), ("S", ("c",))))
FL = (
    ("dash", "mark", "open", "shut", "word"),
    "S",
    (
        ("S", ("open", "N", "shut")), ("S", ("N", "dash", "N")), ("S", ("open", "word", "dash")), ("N", ("word",)),
        ("N", ("word", "mark", "N")),
    ),
)
FC = (
    ("down", "go", "up", "word", "yes"),
    "S",
    (
        ("S", ("up", "A")), ("S", ("down", "B")), ("A", ("P", "yes")), ("A", ("Q", "go", "go")), ("B", ("Q", "yes")),
        ("B", ("P", "go")), ("P", ("word", "word")), ("Q", ("word", "word")),
    ),
)
GG = (("u", "v"), "D", (("D", ("D", "v")), ("D", ("v", "D")), ("D", ("u",))))
# LALR, but not SLR.
STARS = (
    ("is", "name", "star"),
    "S",
    (("S", ("L", "is", "R")), ("S", ("R",)), ("L", ("star", "R")), ("L", ("name",)), ("R", ("L",))),
)
RINGS = (("a",), "S", (("S", ("S", "S")), ("S", ("A",)), ("A", ("S",)), ("A", ()), ("S", ("a",))))
# B derives no row of terminals, D is not reached.
LOST = (
    ("a", "b"),
    "S",
    (("S", ("a", "B", "b")), ("B", ("b", "B")), ("S", ("A", "B")), ("A", ()), ("S", ("a",)), ("D", ("A", "a"))),
)


def fan(many, inner, more=0):
    """A grammar with 2 + many * (3 + inner) + more canonical states, and 2 + 3 * many + inner + more others."""
    names = tuple(f"a{at:02}" for at in range(40))
    rules = [("S", (names[at], "X", names[at])) for at in range(many)]
    rules += [("S", (names[39 - at],)) for at in range(more)]
    for at in range(0, inner, 8):
        rules.append(("X", (names[at // 8],) + names[:1] * (min(inner - at, 8) - 1)))
    return (names, "S", tuple(rules))


def flat(count):
    """A grammar with so many states, from 3 to 602: long rules without nonterminals."""
    names = fan(0, 0)[0]
    rules = []
    left = count - 2
    while left:
        at = len(rules)
        more = min(left, 8 if at < 40 else 7)
        row = (names[at % 40],) + (names[at // 40],) * 7
        rules.append(("S", row[:more if at < 40 else more + 1]))
        left -= more
    return (names, "S", tuple(rules))


def right_side(grammar, rule):
    return (grammar[1],) if rule == -1 else grammar[2][rule][1]


def all_items(grammar):
    return [(rule, place) for rule in range(-1, len(grammar[2])) for place in range(len(right_side(grammar, rule)) + 1)]


def behind_item(grammar, item):
    """The symbol behind an item as a tuple of one, or () if there is none."""
    return right_side(grammar, item[0])[item[1]:item[1] + 1]


def plain_closed(grammar, items):
    """A second way: all rules again and again, until nothing changes."""
    found = set(items)
    before = None
    while before != found:
        before = set(found)
        for rule, (left, _) in enumerate(grammar[2]):
            if any(behind_item(grammar, item) == (left,) for item in before):
                found.add((rule, 0))
    return tuple(sorted(found))


def plain_moved(grammar, items, symbol):
    return plain_closed(grammar, [(rule, place + 1) for rule, place in items if behind_item(grammar, (rule, place)) == (symbol,)])


def plain_automaton(grammar):
    """A second way: the states as they are found, and the rows of their ways."""
    symbols = sorted(set(grammar[0]) | {left for left, _ in grammar[2]})
    states = [plain_closed(grammar, [(-1, 0)])]
    ways = []
    for state in states:
        row = []
        for symbol in symbols:
            target = plain_moved(grammar, state, symbol)
            if target:
                if target not in states:
                    states.append(target)
                row.append((symbol, states.index(target)))
        ways.append(tuple(row))
    return states, ways


def plain_firsts(grammar):
    """A second way: for each symbol the set of its first terminals, and "" if it derives the empty row."""
    firsts = {name: {name} for name in grammar[0]}
    firsts.update({left: set() for left, _ in grammar[2]})
    before = None
    while before != firsts:
        before = {name: set(firsts[name]) for name in firsts}
        for left, right in grammar[2]:
            firsts[left] |= row_firsts(before, right)
    return firsts


def row_firsts(firsts, row):
    found = {""}
    for symbol in row:
        if "" in found:
            found = (found - {""}) | firsts[symbol]
    return found


def plain_canonical(grammar):
    """A second way: the canonical states, as sets of (rule, place, token), "" for an item itself, and their ways."""
    firsts = plain_firsts(grammar)

    def closure(items):
        found = set(items)
        waiting = list(items)
        while waiting:
            rule, place, token = waiting.pop()
            right = right_side(grammar, rule)
            if place == len(right) or right[place] in grammar[0]:
                continue
            behind = row_firsts(firsts, right[place + 1:])
            tokens = (behind - {""}) | ({token} if "" in behind else set()) | {""}
            for other, (left, _) in enumerate(grammar[2]):
                if left == right[place]:
                    more = {(other, 0, one) for one in tokens} - found
                    found |= more
                    waiting.extend(more)
        return frozenset(found)

    states = [closure({(-1, 0, ""), (-1, 0, None)})]
    numbers = {states[0]: 0}
    ways = []
    for state in states:
        moves = {}
        for rule, place, token in state:
            for symbol in behind_item(grammar, (rule, place)):
                moves.setdefault(symbol, set()).add((rule, place + 1, token))
        row = []
        for symbol in sorted(moves):
            target = closure(moves[symbol])
            if target not in numbers:
                numbers[target] = len(states)
                states.append(target)
            row.append((symbol, numbers[target]))
        ways.append(tuple(row))
    return states, ways


def token_key(token):
    return (token is None, token or "")


def plain_lot(tokens):
    return tuple(sorted((token for token in tokens if token != ""), key=token_key))


def told_state(state):
    """A plain canonical state in the form that the document tells."""
    lots = {}
    for rule, place, token in state:
        lots.setdefault((rule, place), set()).add(token)
    return tuple((rule, place, plain_lot(lots[rule, place])) for rule, place in sorted(lots))


def walked(ways, symbols):
    """The state to which rows of ways lead, or None."""
    state = 0
    for symbol in symbols:
        state = dict(ways[state]).get(symbol)
        if state is None:
            return None
    return state


def contexts_up_to(ways, length):
    """All rows of symbols of at most a length that lead to a state, with this state."""
    rows = [((), 0)]
    found = list(rows)
    for _ in range(length):
        rows = [(row + (symbol,), target) for row, state in rows for symbol, target in ways[state]]
        found.extend(rows)
    return found


def is_symbol_row(grammar):
    names = set(grammar[0]) | {left for left, _ in grammar[2]}
    return lambda value: type(value) is tuple and len(value) <= 400 and all(type(one) is str and one in names for one in value)


def is_nonterminal_in(grammar):
    return lambda value: type(value) is str and value in [left for left, _ in grammar[2]]


def is_plain_item(grammar, value):
    """A second way to tell items."""
    if type(value) is not tuple or len(value) != 2 or type(value[0]) is not int or type(value[1]) is not int:
        return False
    return value in all_items(grammar)


def check_steady(case, function, rows):
    """Calls leave their arguments unchanged, and tell the same again, in a new list if it is a list."""
    before = frozen(rows)
    first = [function(*row) for row in rows]
    for row, told in zip(rows[::-1], first[::-1]):
        again = function(*row)
        case.assertEqual(again, told)
        if type(told) is list:
            case.assertIsNot(again, told)
            told.append("more")
            case.assertEqual(function(*row), again)
    case.assertEqual(frozen(rows), before)


def check_too_many(case, limit, function, *arguments):
    """A call raises TooMany with a limit."""
    told = error_of(function, *arguments)
    case.assertIs(type(told), TooMany, (function.__name__, repr(told)))
    case.assertEqual(told.limit, limit)


# LR(1), but not LALR: A and B are told apart by what is ahead of them alone.
APART = (
    ("a", "b", "c", "d", "e"),
    "S",
    (
        ("S", ("a", "A", "d")), ("S", ("b", "B", "d")), ("S", ("a", "B", "e")), ("S", ("b", "A", "e")), ("A", ("c",)),
        ("B", ("c",)),
    ),
)
# Three canonical states have one core; two pairs of them can be joined, but not all three.
THREE = (
    ("a", "b", "c", "d", "e", "f", "g", "h"),
    "S",
    (
        ("S", ("a", "A", "d")), ("S", ("b", "B", "d")), ("S", ("a", "B", "e")), ("S", ("b", "A", "e")),
        ("S", ("f", "A", "g")), ("S", ("f", "B", "h")), ("A", ("c",)), ("B", ("c",)),
    ),
)
# Ambiguous: LR(1) for no k.
PLUS = (
    ("left", "num", "plus", "right", "times"),
    "E",
    (
        ("E", ("E", "plus", "E")), ("E", ("E", "times", "E")), ("E", ("left", "E", "right")), ("E", ("num",)),
    ),
)
SORTS = ("slr", "lalr", "lr1", "joined")


def plain_core(state):
    return tuple(sorted({(rule, place) for rule, place, _ in state}))


def whole_of(grammar, items):
    return [item for item in items if behind_item(grammar, item) == ()]


def plain_deeds(grammar, states, ways, number, token):
    """By the words of [32]: the deeds of a state, with lots, for a token."""
    found = {rule for rule, place, one in states[number] if one == token and behind_item(grammar, (rule, place)) == ()}
    if any(symbol == token for symbol, _ in ways[number]):
        found.add("way")
    return found


def plain_clash(grammar, states, ways, one, other):
    """By the words of [32]: whether two states clash anew."""
    for token in grammar[0] + (None,):
        deeds = plain_deeds(grammar, states, ways, one, token)
        others = plain_deeds(grammar, states, ways, other, token)
        for first in deeds | others:
            for second in deeds | others:
                if first != second and not {first, second} <= deeds and not {first, second} <= others:
                    return True
    return False


def is_plain_joining(grammar, states, ways, value):
    """By the words of [32]: whether a tuple of tuples of integers is a joining."""
    if sorted(number for row in value for number in row) != list(range(len(states))):
        return False
    if list(value) != sorted(value) or not all(row and list(row) == sorted(row) for row in value):
        return False
    home = {number: place for place, row in enumerate(value) for number in row}
    for row in value:
        for one in row:
            for other in row:
                if plain_core(states[one]) != plain_core(states[other]):
                    return False
                for symbol, target in ways[one]:
                    if home[dict(ways[other])[symbol]] != home[target]:
                        return False
                if one < other and plain_clash(grammar, states, ways, one, other):
                    return False
    return True


def partitions(values):
    """All ways to put some values into classes."""
    if not values:
        return [[]]
    found = []
    for rows in partitions(values[1:]):
        found.append([[values[0]]] + rows)
        for at in range(len(rows)):
            found.append(rows[:at] + [[values[0]] + rows[at]] + rows[at + 1:])
    return found


def all_classes(groups):
    """All tuples of classes that put together values of one group alone."""
    found = [[]]
    for group in groups:
        found = [rows + more for rows in found for more in partitions(list(group))]
    return [tuple(sorted(tuple(sorted(row)) for row in rows)) for rows in found]


def groups_by_core(states):
    groups = {}
    for number, state in enumerate(states):
        groups.setdefault(plain_core(state), []).append(number)
    return list(groups.values())


def all_trees(grammar, most):
    """For each symbol the list of its trees of at most so many items."""
    trees = {name: {(name,)} for name in grammar[0]}
    trees.update({left: set() for left, _ in grammar[2]})
    changed = True
    while changed:
        changed = False
        for rule, (left, right) in enumerate(grammar[2]):
            rows = {(rule,)}
            for symbol in right:
                rows = {row + tree for row in rows for tree in trees[symbol] if len(row) + len(tree) <= most}
            if not rows <= trees[left]:
                trees[left] |= rows
                changed = True
    return trees


def plain_moments(grammar, tree):
    """By the words of [34]: the moments of a tree, from the numbers at which its parts are finished."""
    nodes = []
    deeds = []

    def work(at, parent):
        number = len(nodes)
        nodes.append([tree[at], parent, None])
        end = at + 1
        if type(tree[at]) is int:
            for _ in grammar[2][tree[at]][1]:
                end = work(end, number)
            deeds.append(("reduce", tree[at]))
        else:
            deeds.append(("shift",))
        nodes[number][2] = len(deeds)
        return end

    work(0, None)
    deeds.append(("accept",))
    moments = []
    for number, deed in enumerate(deeds):
        done = [node[2] <= number for node in nodes]
        context = tuple(
            grammar[2][item][0] if type(item) is int else item
            for at, (item, parent, _) in enumerate(nodes) if done[at] and (parent is None or not done[parent])
        )
        ahead = [item for at, (item, _, _) in enumerate(nodes) if type(item) is str and not done[at]]
        moments.append((context, ahead[0] if ahead else None, deed))
    return moments


HG = (("a", "b"), "S", (("S", ("a", "S")), ("S", ("b",))))
HA = (
    (("a", ("shift", 2)), ("b", ("shift", 3))), ((None, ("accept",)),), (("a", ("shift", 2)), ("b", ("shift", 3))),
    ((None, ("reduce", 1)),), ((None, ("reduce", 0)),),
)
HT = (HA, ((("S", 1),), (), (("S", 4),), (), ()))
# Lists with something between, nests, empty rules, mirrors.
LISTS = (
    ("close", "comma", "num", "open"),
    "S",
    (
        ("S", ("open", "L", "close")), ("L", ()), ("L", ("M",)), ("M", ("V",)), ("M", ("M", "comma", "V")), ("V", ("num",)),
        ("V", ("S",)),
    ),
)
# Levels of sums and products.
LEVELED = (
    ("close", "num", "open", "plus", "times"), "E",
    (
        ("E", ("E", "plus", "T")), ("E", ("T",)), ("T", ("T", "times", "F")), ("T", ("F",)), ("F", ("num",)), ("F", ("open", "E", "close")),
    ),
)
MIRROR = (("a", "b", "c"), "S", (("S", ("a", "S", "a")), ("S", ("b", "S", "b")), ("S", ("c",)), ("S", ())))
BARE = (("a", "b"), "S", (("S", ("A", "B")), ("A", ()), ("A", ("A", "a")), ("B", ("D",)), ("D", ("E",)), ("E", ("b",)), ("E", ())))
NONE = ((), ())


def table_by(grammar, sort, precedence=NONE):
    """The table of a built automaton, conflicts settled by a precedence and in order."""
    machine = built(grammar, sort)
    return table_of(grammar, machine[1], settled_rows(grammar, machine, precedence, True))


def random_table(rng, grammar, most=5, chance=0.7):
    """Any small table, put together without a plan."""
    count = rng.randint(1, most)
    rules = range(len(grammar[2]))
    actions, gotos = [], []
    for _ in range(count):
        row = []
        for token in grammar[0] + (None,):
            if rng.random() < chance:
                deeds = [("reduce", rng.choice(rules)), ("reduce", rng.choice(rules)), ("refuse",)]
                deeds += [("accept",)] * 2 if token is None else [("shift", rng.randrange(count))] * 3
                row.append((token, rng.choice(deeds)))
        actions.append(tuple(row))
        gotos.append(tuple((name, rng.randrange(count)) for name in letters_of(grammar) if rng.random() < chance))
    return (tuple(actions), tuple(gotos))


def with_item(row, at, value):
    return row[:at] + (value,) + row[at + 1:]


def turned_table(rng, grammar, table):
    """A table that is like another one but for one entry or goto."""
    state = rng.randrange(len(table[0]))
    if rng.random() < 0.35:
        row = dict(table[1][state])
        row[rng.choice(letters_of(grammar))] = rng.randrange(len(table[0]))
        if rng.random() < 0.3:
            row.pop(rng.choice(list(row)))
        return (table[0], with_item(table[1], state, tuple(sorted(row.items()))))
    row = dict(table[0][state])
    token = rng.choice(grammar[0] + (None,))
    rule = rng.randrange(len(grammar[2]))
    other = rng.choice((("reduce", rule), ("refuse",), ("accept",) if token is None else ("shift", rng.randrange(len(table[0]))), None))
    row.pop(token, None)
    if other is not None:
        row[token] = other
    told = tuple(sorted(row.items(), key=lambda pair: token_key(pair[0])))
    return (with_item(table[0], state, told), table[1])


def some_precedence(rng, grammar):
    """Levels of some tokens, without marks."""
    tokens = list(grammar[0])
    rng.shuffle(tokens)
    return (tuple((rng.choice(("left", "right", "none")), (token,)) for token in tokens if rng.random() < 0.7), ())


def built_tables(seed, count):
    """Pairs of a grammar and of a table of a built automaton of it, conflicts settled in any way."""
    rng = random.Random(seed)
    known = [HG, G, F, EG, FL, FC, GG, STARS, RINGS, LOST, APART, PLUS, LISTS, LEVELED, MIRROR, BARE]
    found = [(grammar, table_by(grammar, sort)) for grammar in known for sort in SORTS]
    for grammar in known + random_grammars(seed + 1, count):
        found.append((grammar, table_by(grammar, rng.choice(SORTS), some_precedence(rng, grammar))))
    return found


def any_tables(seed, count):
    """Pairs of a grammar and of a table: built ones, such with some entries turned, and any small ones."""
    rng = random.Random(seed)
    found = built_tables(seed + 1, count)
    for grammar, table in list(found):
        for _ in range(2):
            table = turned_table(rng, grammar, table)
            found.append((grammar, table))
    for grammar in random_grammars(seed + 2, count):
        found.append((grammar, random_table(rng, grammar)))
        found.append((grammar, random_table(rng, grammar, chance=0.95)))
    return found


def plain_machine_run(grammar, table, row, limit=5000, with_end=True):
    """By the words of [40]: how the machine ends over a row, its place, its states, its trees and its deeds."""
    states, trees, place, done = [0], [], 0, []
    actions, gotos = [dict(one) for one in table[0]], [dict(one) for one in table[1]]
    defaults = table[2] if len(table) == 3 else [-1] * len(actions)
    word = "on"
    while word == "on" and (place < len(row) or with_end):
        token = row[place] if place < len(row) else None
        deed = actions[states[-1]].get(token, ("refuse",))
        if token not in actions[states[-1]] and defaults[states[-1]] >= 0:
            deed = ("reduce", defaults[states[-1]])
        if deed[0] == "refuse" or deed[0] == "accept" and not trees:
            word = "refused"
        if deed[0] == "reduce":
            left, right = grammar[2][deed[1]]
            kept = len(trees) - len(right)
            if kept < 0 or left not in gotos[states[kept]]:
                word = "refused"
        if word == "on" and len(done) == limit:
            word = "long"
        if word != "on":
            break
        done.append(deed)
        if deed[0] == "accept":
            word = "tree"
        elif deed[0] == "shift":
            states.append(deed[1])
            trees.append((token,))
            place += 1
        else:
            trees[kept:] = [(deed[1],) + tuple(trees[kept:])]
            states[kept + 1:] = [gotos[states[kept]][left]]
    return word, place, states, [flattened(tree) for tree in trees], done


def flattened(tree):
    found = []
    waiting = [tree]
    while waiting:
        part = waiting.pop()
        if type(part) is tuple:
            waiting.extend(part[::-1])
        else:
            found.append(part)
    return tuple(found)


def plain_expected(grammar, table, row):
    """By the words of [41]."""
    found = []
    for token in grammar[0]:
        if plain_machine_run(grammar, table, row + (token,), with_end=False)[0] == "on":
            found.append(token)
    if plain_machine_run(grammar, table, row)[0] == "tree":
        found.append(None)
    return tuple(found)


def plain_parse(grammar, table, row, read_by=None):
    """By the words of [40] and [41]: what parse tells, or, of another table to read by, what is told by this."""
    kind, place, _, trees, _ = plain_machine_run(grammar, read_by or table, row)
    if kind == "tree":
        return ("tree", trees[-1])
    if kind == "refused":
        return ("refused", place, plain_expected(grammar, table, row[:place]))
    return ("long", place)


def sentences_up_to(grammar, length):
    return sorted(words_up_to(grammar, length)[grammar[1]])


def rows_for(rng, grammar, count, length=7):
    """Some sentences, rows near to them, and any rows."""
    known = sentences_up_to(grammar, length)
    rows = [(), (grammar[0][0],)]
    for _ in range(count):
        row = list(rng.choice(known)) if known and rng.random() < 0.8 else []
        if row and rng.random() < 0.5:
            row[rng.randrange(len(row))] = rng.choice(grammar[0])
        if rng.random() < 0.3:
            row.insert(rng.randint(0, len(row)), rng.choice(grammar[0]))
        if row and rng.random() < 0.2:
            row.pop()
        if not known:
            row = [rng.choice(grammar[0]) for _ in range(rng.randint(0, 5))]
        rows.append(tuple(row))
    return rows


J = (("a",), "S", (("S", ("S", "S")), ("S", ("a",))))


def plain_spans(grammar, row):
    """For each symbol the set of the pairs (begin, end) of the parts of a row that it derives, by turns over all rules."""
    spans = {token: {(at, at + 1) for at, one in enumerate(row) if one == token} for token in grammar[0]}
    spans.update({left: set() for left, _ in grammar[2]})
    before = None
    while before != spans:
        before = {symbol: set(spans[symbol]) for symbol in spans}
        for left, right in grammar[2]:
            spans[left] |= row_spans(spans, right, len(row))
    return spans


def row_spans(spans, symbols, count):
    """The pairs (begin, end) of the parts that a row of symbols derives."""
    found = {(at, at) for at in range(count + 1)}
    for symbol in symbols:
        found = {(begin, end) for begin, middle in found for other, end in spans[symbol] if other == middle}
    return found


def plain_columns(grammar, row):
    """By the words of [54]: the columns of a chart, from spans and from open trees."""
    spans = plain_spans(grammar, row)
    count = len(row)
    open_at = {(grammar[1], 0)}
    before = None
    while before != open_at:
        before = set(open_at)
        for name, at in before:
            for left, right in grammar[2]:
                if left == name:
                    for place, symbol in enumerate(right):
                        if symbol not in grammar[0]:
                            ahead = row_spans(spans, right[:place], count)
                            open_at |= {(symbol, end) for begin, end in ahead if begin == at}
    columns = [set() for _ in range(count + 1)]
    for rule in range(-1, len(grammar[2])):
        right = right_side(grammar, rule)
        for place in range(len(right) + 1):
            for begin, end in row_spans(spans, right[:place], count):
                if begin == 0 if rule == -1 else (grammar[2][rule][0], begin) in open_at:
                    columns[end].add((rule, place, begin))
    return tuple(tuple(sorted(column)) for column in columns)


def small_rows(rng, grammar, count, most=5):
    """Rows of at most a length: the empty one, sentences, near ones and any."""
    return [row[:most] for row in rows_for(rng, grammar, count, most)]


def prefixes_up_to(grammar, length):
    """All rows of at most a length with which some sentence begins, by growing the sets of all nonterminals."""
    words = words_up_to(grammar, length)
    fine = trees_by_height(grammar, grammar[0]) | set(grammar[0])
    begins = {left: {()} if left in fine else set() for left, _ in grammar[2]}
    before = None
    while before != begins:
        before = {left: set(begins[left]) for left in begins}
        for left, right in grammar[2]:
            if all(symbol in fine for symbol in right):
                ahead = {()}
                for symbol in right:
                    more = before.get(symbol, {(), (symbol,)})
                    begins[left] |= {row + end for row in ahead for end in more if len(row + end) <= length}
                    ends = words.get(symbol, {(symbol,)})
                    ahead = {row + end for row in ahead for end in ends if len(row + end) <= length}
    return begins[grammar[1]]


KG = G
KW = (0, 1, 2, "num", "plus", 2, "num")
KS = (
    ((("v",), ()), (("v",), ("d",))),
    (
        (((0, "v"), ("add", ("of", 1, "v"), ("of", 3, "v"))), ((1, "d"), ("add", ("of", 0, "d"), ("num", 1)))),
        (((0, "v"), ("add", ("of", 1, "v"), ("of", 0, "d"))),), (((0, "v"), ("of", 1, "worth")),),
    ),
)
WORDS = {"add": 2, "sub": 2, "mul": 2, "less": 2, "if": 3}
TOP = 4294967295


def plain_targets(names, rule):
    left, right = rule
    found = [(0, up) for up in names[left][0]]
    for place, symbol in enumerate(right, 1):
        found += [(place, down) for down in names.get(symbol, ((), ()))[1]]
    return sorted(found)


def plain_sources(names, rule):
    left, right = rule
    found = [(0, down) for down in names[left][1]]
    for place, symbol in enumerate(right, 1):
        found += [(place, name) for name in (names[symbol][0] if symbol in names else ("worth",))]
    return found


def random_expression(rng, sources, depth, chance=0.5):
    if depth > 1 and rng.random() < chance:
        word = rng.choice(sorted(WORDS))
        return (word,) + tuple(random_expression(rng, sources, depth - 1, chance) for _ in range(WORDS[word]))
    if sources and rng.random() < 0.75:
        return ("of",) + rng.choice(sources)
    return ("num", rng.choice((0, 1, 2, TOP, rng.randint(0, TOP))))


def random_scheme(rng, grammar, most=2, one_walk=False):
    """A scheme of a grammar; one of one walk, if asked for, or any."""
    pairs = []
    for _ in letters_of(grammar):
        words = rng.sample(("v", "d", "up", "down", "w1", "of", "num", "x" * 20), 2 * most)
        pairs.append((tuple(words[:rng.randint(0, most)]), tuple(words[most:most + rng.randint(0, most)])))
    names = dict(zip(letters_of(grammar), pairs))
    rows = []
    for rule in grammar[2]:
        row = []
        for target in plain_targets(names, rule):
            sources = plain_sources(names, rule)
            if one_walk and target[0]:
                sources = [source for source in sources if source[0] < target[0]]
            row.append((target, random_expression(rng, sources, rng.choice((1, 1, 2, 4)))))
        rows.append(tuple(row))
    return (tuple(pairs), tuple(rows))


def expression_reads(expression):
    if expression[0] == "of":
        return [expression[1:]]
    return [pair for part in expression[1:] if type(part) is tuple for pair in expression_reads(part)]


def plain_instances(grammar, scheme, tree):
    """For each instance of a tree but the downs of the first node: its expression, and what its places are."""
    names = dict(zip(letters_of(grammar), scheme[0]))
    found = {}
    nodes = {}

    def walk(at):
        rule = tree[at]
        ends, here = [], [at]
        end = at + 1
        for symbol in grammar[2][rule][1]:
            here.append(end)
            end = end + 1 if symbol in grammar[0] else walk(end)
        for (place, name), expression in scheme[1][rule]:
            found[here[place], name] = (expression, here)
        nodes[at] = grammar[2][rule][0]
        return end

    walk(0)
    return found, nodes, names


def plain_reads(grammar, scheme, tree):
    """For each instance the set of the instances that it reads (those of leaves left out)."""
    found, nodes, names = plain_instances(grammar, scheme, tree)
    reads = {(at, name): set() for at in nodes for name in names[nodes[at]][0] + names[nodes[at]][1]}
    for instance, (expression, here) in found.items():
        reads[instance] = {(here[place], name) for place, name in expression_reads(expression) if here[place] in nodes}
    return reads


def closed_reads(reads):
    """What each instance reads, perhaps through others."""
    closed = {one: set(reads[one]) for one in reads}
    for middle in closed:
        for one in closed:
            if middle in closed[one]:
                closed[one] |= closed[middle]
    return closed


def plain_worths(grammar, scheme, tree, leaves, downs):
    """By the words of [61] and [62]: the worths of all items, by turns over all instances, or None if some stay unknown."""
    found, nodes, names = plain_instances(grammar, scheme, tree)
    known = {}
    indices = [at for at, item in enumerate(tree) if type(item) is str]
    known.update({(at, "worth"): worth for at, worth in zip(indices, leaves)})
    known.update({(0, name): worth for name, worth in zip(names[nodes[0]][1], downs)})

    def worth(expression, here):
        word = expression[0]
        if word == "num":
            return expression[1]
        if word == "of":
            return known[here[expression[1]], expression[2]]
        parts = [worth(part, here) for part in expression[1:]]
        if word == "if":
            return parts[1] if parts[0] else parts[2]
        one, other = parts
        return {"add": one + other, "sub": one - other, "mul": one * other, "less": int(one < other)}[word] % 2 ** 32

    changed = True
    while changed:
        changed = False
        for instance, (expression, here) in found.items():
            if instance not in known and all((here[place], name) in known for place, name in expression_reads(expression)):
                known[instance] = worth(expression, here)
                changed = True
    if not all(instance in known for instance in found):
        return None
    told = []
    for at, item in enumerate(tree):
        if type(item) is str:
            told.append(known[at, "worth"])
        else:
            ups, rest = names[nodes[at]]
            told.append((tuple(known[at, name] for name in rest), tuple(known[at, name] for name in ups)))
    return tuple(told)
