"""Charts, which take just the sentences of any grammar, and where rows come to a dead end."""

from shiftroads.checks import trimmed
from shiftroads.columns import Columns
from shiftroads.grammars import check_grammar, check_row
from shiftroads.values import bit_places


def chart(grammar, row):
    """Return the tuple of the columns of the chart of a row."""
    check_grammar(grammar)
    check_row(grammar, row)
    columns = Columns(grammar)
    for token in row:
        columns.take(token)
    return tuple([column_items(column) for column in columns.columns])


def takes(grammar, row):
    """Tell whether a row is a sentence."""
    check_grammar(grammar)
    check_row(grammar, row)
    return end_of_beginnings(grammar, row) is None


def dead_end(grammar, row):
    """Return the dead end of a row: None for a sentence, -1 if there are no sentences."""
    check_grammar(grammar)
    check_row(grammar, row)
    return end_of_beginnings(grammar, row)


def column_items(column):
    """Return the ascending tuple of the items of a column."""
    items = []
    for rule, place in sorted(column):
        items.extend([(rule, place, origin) for origin in bit_places(column[rule, place])])
    return tuple(items)


def end_of_beginnings(grammar, row):
    """Return how many tokens of a row begin some sentence, None if they are a sentence, -1 if there is none."""
    useful = trimmed(grammar)
    if useful is None:
        return -1
    # With useful rules alone each item of a column goes on to some sentence.
    columns = Columns(useful)
    for taken, token in enumerate(row):
        columns.take(token)
        if not columns.goes_on():
            return taken
    return None if columns.is_done() else len(row)
