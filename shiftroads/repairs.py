"""Rows made into sentences: at least costs, by tokens behind them, or by leaving out what does not go on."""

from shiftroads.checks import trimmed
from shiftroads.columns import Columns
from shiftroads.errors import NoSentence, TooMany
from shiftroads.grammars import check_grammar, check_row, nonterminals_of
from shiftroads.prices import BITS, WANTING, LeastPrices, rule_prices, wanting_prices
from shiftroads.steps import check_costs, check_put
from shiftroads.values import is_index, is_integer, is_tuple

LONGEST_ROW = 30
MOST_ITEMS = 10000


def least_costs(grammar, costs, row):
    """Return the table of least costs of a row."""
    check_repair(grammar, costs, row)
    least = repair_prices(grammar, costs, row)
    return {(name, begin, end): pair_of(least.prices[name][begin][end])
            for name in nonterminals_of(grammar)
            for begin in range(len(row) + 1)
            for end in range(begin, len(row) + 1)
            if least.prices[name][begin][end] < WANTING}


def is_bound(grammar, costs, row, value):
    """Tell whether any value is a table that is a bound."""
    check_repair(grammar, costs, row)
    names = nonterminals_of(grammar)
    if not isinstance(value, dict):
        return False
    for key in value:
        if not is_part(names, len(row), key) or not is_pair(value[key]):
            return False
    most = max([max(value[key]) for key in value], default=0)
    # Sums of eight of the numbers are less than two to the power of this.
    bits = most.bit_length() + BITS
    wanting = 1 << (bits + bits)
    prices = terminal_prices(grammar, costs, row, bits)
    for name in names:
        prices[name] = wanting_prices(len(row), wanting)
    for key in value:
        name, begin, end = key
        prices[name][begin][end] = (value[key][0] << bits) + value[key][1]
    empties = leaving_prices(grammar, costs, row, bits)
    for left, right in grammar[2]:
        for end in range(len(row) + 1):
            for begin, price in enumerate(rule_prices(prices, empties, right, end, wanting)):
                # Prices that are wanting are not less than what is in the table.
                if price < prices[left][begin][end]:
                    return False
    return True


def repair(grammar, costs, row):
    """Return a least repair of a row: its cost, its steps and its tree."""
    check_repair(grammar, costs, row)
    check_start(grammar)
    least = repair_prices(grammar, costs, row)
    cost, size = pair_of(least.prices[grammar[1]][0][len(row)])
    check_size(size)
    steps = []
    tree = []
    for item, begin, end in least.grown(grammar[1], len(row)):
        tree.append(item)
        if isinstance(item, str):
            place = min(ways_to(grammar, costs, row, item, begin, end))[1]
            steps.extend(leaf_steps(row, item, begin, end, place))
        elif not grammar[2][item][1]:
            steps.extend([("leave", token) for token in row[begin:end]])
    return (cost, tuple(steps), tuple(tree))


def complete(grammar, put, row):
    """Return a least completion of a row: its cost, its tokens and its tree; None if the row is no beginning."""
    check_grammar(grammar)
    check_put(grammar, put)
    check_row(grammar, row)
    check_length(row)
    return completion(grammar, put, row)


def panic(grammar, put, stops, row):
    """Return the steps and the tree of a panic repair of a row."""
    check_grammar(grammar)
    check_put(grammar, put)
    check_row(grammar, stops)
    check_row(grammar, row)
    check_length(row)
    check_start(grammar)
    steps = []
    kept = ()
    skipping = False
    for token in row:
        if (not skipping or token in stops) and is_beginning(grammar, kept + (token,)):
            kept = kept + (token,)
            skipping = False
            steps.append(("keep", token))
        else:
            skipping = True
            steps.append(("leave", token))
    _, tokens, tree = completion(grammar, put, kept)
    return (tuple(steps + [("put", token) for token in tokens]), tree)


def check_repair(grammar, costs, row):
    """Raise the error of the first argument that is none of the kind that is asked for."""
    check_grammar(grammar)
    check_costs(grammar, costs)
    check_row(grammar, row)
    check_length(row)


def check_length(row):
    """Raise TooMany for a row of more than 30 tokens."""
    if len(row) > LONGEST_ROW:
        raise TooMany(LONGEST_ROW)


def check_start(grammar):
    """Raise NoSentence if the start has no tree."""
    if trimmed(grammar) is None:
        raise NoSentence("the start has no tree")


def check_size(size):
    """Raise TooMany for a tree of more than 10,000 items."""
    if size > MOST_ITEMS:
        raise TooMany(MOST_ITEMS)


def is_part(names, length, value):
    """Tell whether a value is a triple of one of some names and of the ends of a part of a row of a length."""
    if not is_tuple(value, 3, 3) or value[0] not in names:
        return False
    return is_index(value[2], length + 1) and is_index(value[1], value[2] + 1)


def is_pair(value):
    """Tell whether a value is a pair of integers from 0 on."""
    return is_tuple(value, 2, 2) and all(is_integer(number) and number >= 0 for number in value)


def pair_of(price):
    """Return the cost and the number of items of a price."""
    return (price >> BITS, price & ((1 << BITS) - 1))


def ways_to(grammar, costs, row, token, begin, end):
    """Return the list of the ways from a part to a token: the cost, and the place that is kept or changed to it.

    The place behind the part stands for putting it in there.
    """
    put, leave, change = costs
    terminals = grammar[0]
    total = sum([leave[terminals.index(name)] for name in row[begin:end]])
    found = [(total + put[terminals.index(token)], end)]
    for place in range(begin, end):
        cost = total - leave[terminals.index(row[place])]
        found.append((cost if row[place] == token else cost + change, place))
    return found


def leaf_steps(row, token, begin, end, place):
    """Return the list of the steps from a part to a token, by the place that is kept or changed to it."""
    steps = [("leave", name) for name in row[begin:place]]
    if place == end:
        return steps + [("put", token)]
    steps.append(("keep", token) if row[place] == token else ("change", row[place], token))
    return steps + [("leave", name) for name in row[place + 1:end]]


def terminal_prices(grammar, costs, row, bits):
    """Return a dict from the terminals to their prices for all parts of a row."""
    prices = {}
    for token in grammar[0]:
        prices[token] = wanting_prices(len(row), WANTING)
        for end in range(len(row) + 1):
            for begin in range(end + 1):
                cost = min(ways_to(grammar, costs, row, token, begin, end))[0]
                prices[token][begin][end] = (cost << bits) + 1
    return prices


def leaving_prices(grammar, costs, row, bits):
    """Return what it costs to leave out each part of a row."""
    prices = wanting_prices(len(row), WANTING)
    for begin in range(len(row) + 1):
        cost = 0
        prices[begin][begin] = 0
        for end in range(begin, len(row)):
            cost += costs[1][grammar[0].index(row[end])]
            prices[begin][end + 1] = cost << bits
    return prices


def repair_prices(grammar, costs, row):
    """Return the least prices of all parts of a row that is repaired."""
    empties = leaving_prices(grammar, costs, row, BITS)
    return LeastPrices(grammar[2], len(row), terminal_prices(grammar, costs, row, BITS), empties)


def completion(grammar, put, row):
    """Return a least completion of a row, or None."""
    count = len(row)
    # The place behind the last one is that behind all tokens that are put in.
    empties = wanting_prices(count + 1, WANTING)
    for place in range(count + 2):
        empties[place][place] = 0
    prices = {}
    for token, cost in zip(grammar[0], put):
        prices[token] = wanting_prices(count + 1, WANTING)
        for place in range(count):
            if row[place] == token:
                prices[token][place][place + 1] = 1
        prices[token][count][count + 1] = prices[token][count + 1][count + 1] = (cost << BITS) + 1
    least = LeastPrices(grammar[2], count + 1, prices, empties)
    price, end = min([(least.prices[grammar[1]][0][end], end) for end in (count, count + 1)])
    if price >= WANTING:
        return None
    cost, size = pair_of(price)
    check_size(size)
    tree = tuple([item for item, _, _ in least.grown(grammar[1], end)])
    leaves = [item for item in tree if isinstance(item, str)]
    return (cost, tuple(leaves[count:]), tree)


def is_beginning(grammar, row):
    """Tell whether a row is a beginning, the start having a tree."""
    columns = Columns(trimmed(grammar))
    for token in row:
        columns.take(token)
    return columns.goes_on()
