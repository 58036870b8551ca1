"""Tables packed into tuples of integers: the rows of the states share one long row.

A packed part is (numbers, bases, owners, worths): the number of the row of each state, like rows having the same one;
the place in the long row at which each row begins; for each place of the long row, the number of the row that has
an entry there, or -1; the entry.
"""

from shiftroads.conflicts import check_token
from shiftroads.errors import InvalidTable
from shiftroads.grammars import check_grammar, check_nonterminal, nonterminals_of
from shiftroads.moments import ACCEPT
from shiftroads.tables import REFUSE, check_state_of, check_table
from shiftroads.values import bit_places, is_tuple


def pack_table(grammar, table):
    """Return the packed table of a table."""
    check_grammar(grammar)
    check_table(grammar, table)
    columns = {token: column for column, token in enumerate(tokens_of(grammar))}
    for column, name in enumerate(nonterminals_of(grammar)):
        columns[name] = column
    deeds = [tuple([(columns[token], number_of(deed)) for token, deed in row]) for row in table[0]]
    gotos = [tuple([(columns[name], target) for name, target in row]) for row in table[1]]
    return (packed_rows(deeds), packed_rows(gotos))


def unpack_table(grammar, packed):
    """Return the table of a packed one."""
    check_grammar(grammar)
    check_packed(packed)
    deeds, gotos = packed
    names = nonterminals_of(grammar)
    rows = []
    leads = []
    for state in range(len(deeds[0])):
        rows.append(unpacked_row(deeds, state, tokens_of(grammar)))
        leads.append(unpacked_row(gotos, state, names))
    actions = [tuple([(token, deed_by(number)) for token, number in row]) for row in rows]
    return (tuple(actions), tuple([tuple(row) for row in leads]))


def packed_deed(grammar, packed, state, token):
    """Return the deed of a packed table in a state for a token, or None."""
    check_grammar(grammar)
    check_packed(packed)
    check_state_of(len(packed[0][0]), state)
    check_token(grammar, token)
    number = worth_at(packed[0], state, tokens_of(grammar).index(token))
    return None if number is None else deed_by(number)


def packed_goto(grammar, packed, state, nonterminal):
    """Return the state to which a state of a packed table leads by a nonterminal, or None."""
    check_grammar(grammar)
    check_packed(packed)
    check_state_of(len(packed[0][0]), state)
    check_nonterminal(grammar, nonterminal)
    return worth_at(packed[1], state, nonterminals_of(grammar).index(nonterminal))


def check_packed(packed):
    """Raise InvalidTable for what is no tuple of two items."""
    if not is_tuple(packed, 2, 2):
        raise InvalidTable("no packed table")


def tokens_of(grammar):
    """Return the tuple of the tokens of a grammar, in order."""
    return grammar[0] + (None,)


def number_of(deed):
    """Return the number of a deed."""
    if deed == REFUSE:
        return 0
    if deed == ACCEPT:
        return 1
    return deed[1] * 2 + (2 if deed[0] == "shift" else 3)


def deed_by(number):
    """Return the deed with a number."""
    if number < 2:
        return (REFUSE, ACCEPT)[number]
    return ("shift" if number & 1 == 0 else "reduce", number // 2 - 1)


def packed_rows(rows):
    """Return the packed part of some rows of pairs of a column and of an integer."""
    numbers = {}
    for row in rows:
        numbers.setdefault(row, len(numbers))
    bases = []
    worths = {}
    taken = 0
    for row in numbers:
        base = free_base(taken, row)
        for column, worth in row:
            worths[base + column] = (numbers[row], worth)
            taken = taken | 1 << (base + column)
        bases.append(base)
    owned = [worths.get(place, (-1, 0)) for place in range(taken.bit_length())]
    owners = tuple([owner for owner, _ in owned])
    return (tuple([numbers[row] for row in rows]), tuple(bases), owners, tuple([worth for _, worth in owned]))


def free_base(taken, row):
    """Return the first place from which on the places of all columns of a row are not taken."""
    barred = 0
    for column, _ in row:
        barred = barred | taken >> column
    return bit_places(~barred & (barred + 1))[0]


def worth_at(part, state, column):
    """Return the integer that the row of a state has in a column, or None."""
    numbers, bases, owners, worths = part
    place = bases[numbers[state]] + column
    if place < len(owners) and owners[place] == numbers[state]:
        return worths[place]
    return None


def unpacked_row(part, state, keys):
    """Return the list of the pairs of a key and of the integer that the row of a state has in its column."""
    pairs = []
    for column, key in enumerate(keys):
        worth = worth_at(part, state, column)
        if worth is not None:
            pairs.append((key, worth))
    return pairs
