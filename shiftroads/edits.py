"""Rows that are edited, and read again by taking over what an edit does not touch."""

from shiftroads.errors import InvalidNumber, InvalidRow
from shiftroads.grammars import LONGEST_ROW, check_row
from shiftroads.parsers import check_reading, told_answer
from shiftroads.runs import MOST_DEEDS, Run, fresh_run
from shiftroads.values import is_index


class Edited:
    """A row with what is told of it, as parse does, before and behind edits."""

    def __init__(self, grammar, table, row):
        check_reading(grammar, table, row)
        self.grammar = grammar
        self.table = table
        self.run = fresh_run(grammar, table)
        self.read_again(row, {}, [])

    def replace(self, begin, end, tokens):
        """Put tokens into the place of those from a place up to another one, and return the new answer."""
        if not is_index(begin, len(self.row) + 1):
            raise InvalidNumber("no place of the row")
        if not is_index(end, len(self.row) + 1) or end < begin:
            raise InvalidNumber("no place of the row from the first one on")
        check_row(self.grammar, tokens)
        row = self.row[:begin] + tokens + self.row[end:]
        if len(row) > LONGEST_ROW:
            raise InvalidRow("the row would be too long")
        kept = self.kept_pieces(begin, end, len(tokens) - (end - begin))
        self.read_again(row, kept, self.run.log)
        return self.answer

    def kept_pieces(self, begin, end, change):
        """Return the pieces that an edit keeps, by their new begins and their bases.

        Each is told by its new end, the number of its deeds, the change of its places, and the number of its last
        deed; longer ones go ahead.
        """
        kept = {}
        for number, (item, first, base, start, stop) in enumerate(self.run.log):
            if isinstance(item, str) or start == stop:
                continue
            if stop < begin:
                kept.setdefault((start, base), []).append((stop, number + 1 - first, 0, number))
            elif start >= end:
                piece = (stop + change, number + 1 - first, change, number)
                kept.setdefault((start + change, base), []).append(piece)
        return {key: sorted(kept[key])[::-1] for key in kept}

    def read_again(self, row, kept, log):
        """Read a row, taking over pieces of a log where they can be, and note all that is told of it."""
        run = Run(self.run.rules, self.run.deeds, self.run.gotos)
        work = 0
        taken = []
        word = "shift"
        while word in ("shift", "reduce"):
            piece = next_piece(run, kept)
            if piece is None:
                word = run.step(row[run.place] if run.place < len(row) else None)
                work += 1 if word in ("shift", "reduce", "accept") else 0
            else:
                _, many, change, number = piece
                taken.append((run.place, piece[0], many))
                run.take_over(log[number + 1 - many:number + 1], change)
        self.row = row
        self.answer = told_answer(self.grammar, self.table, row, run, word)
        self.work = work
        self.taken = tuple(taken)
        self.run = run


def next_piece(run, kept):
    """Return the longest kept piece that can be taken over where a run stands, or None."""
    for piece in kept.get((run.place, run.states[-1]), []):
        if len(run.log) + piece[1] <= MOST_DEEDS:
            return piece
    return None
