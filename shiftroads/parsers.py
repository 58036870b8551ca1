"""Rows read by tables: at once, with defaults, or token by token."""

from shiftroads.conflicts import check_token
from shiftroads.grammars import check_grammar, check_row
from shiftroads.runs import Run, fresh_run
from shiftroads.tablerows import filled_deeds, gotos_by_state
from shiftroads.tables import check_table


def parse(grammar, table, row):
    """Return the tree of a row, or where it is refused and what is expected there, or where it is too long."""
    check_reading(grammar, table, row)
    return answer_of(grammar, table, row, fresh_run(grammar, table))


def parse_by_defaults(grammar, table, row):
    """Return the same by the table with defaults; what is expected is found by the table itself."""
    check_reading(grammar, table, row)
    return answer_of(grammar, table, row, Run(grammar[2], filled_deeds(grammar, table), gotos_by_state(table)))


def expected(grammar, table, row):
    """Return the ascending tuple of the tokens expected behind a row."""
    check_reading(grammar, table, row)
    return expected_behind(grammar, table, row)


def check_reading(grammar, table, row):
    """Raise the error of the first argument that is none of the kind that is asked for."""
    check_grammar(grammar)
    check_table(grammar, table)
    check_row(grammar, row)


def answer_of(grammar, table, row, run):
    """Return what is told of a row behind all deeds of a run over it."""
    return told_answer(grammar, table, row, run, run.read_on(row))


def told_answer(grammar, table, row, run, word):
    """Return what is told of a row over which a run has ended with a word."""
    if word == "accept":
        return ("tree", run.stack_tree(len(run.firsts) - 1))
    if word == "refused":
        return ("refused", run.place, expected_behind(grammar, table, row[:run.place]))
    return ("long", run.place)


def expected_behind(grammar, table, row):
    """Return the ascending tuple of the tokens with which the machine goes on behind a row."""
    run = fresh_run(grammar, table)
    for token in row:
        if run.drive(token) != "shift":
            return ()
    return tuple([token for token in grammar[0] + (None,) if run.copy().drive(token) in ("shift", "accept")])


class Parser:
    """The machine of a table, fed by tokens."""

    def __init__(self, grammar, table):
        check_grammar(grammar)
        check_table(grammar, table)
        self.grammar = grammar
        self.table = table
        self.take_up(fresh_run(grammar, table), None)

    def take_up(self, run, ended):
        """Go on from where a run stands, with the word that is told from now on, or None."""
        self.run = run
        self.states = run.states
        self.place = run.place
        self.ended = ended

    def trees(self):
        """Return the list of the trees."""
        return [self.run.stack_tree(number) for number in range(len(self.run.firsts))]

    def feed(self, token):
        """Do all deeds that a token causes, and return "on", "tree", "refused" or "long"."""
        check_token(self.grammar, token)
        if self.ended is not None:
            return self.ended
        word = self.run.drive(token)
        self.place = self.run.place
        if word == "shift":
            return "on"
        self.ended = "tree" if word == "accept" else word
        return self.ended

    def copy(self):
        """Return a machine that stands alike."""
        other = Parser(self.grammar, self.table)
        other.take_up(self.run.copy(), self.ended)
        return other
