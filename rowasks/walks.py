"""Walks: an ask's answer told row by row, while the rows of the log come."""

from rowasks.asks import behind_last_rows, behind_step, refuse_what_is_no_ask
from rowasks.rows import refuse_to_take, refuse_when_ended


def step_room(step, kept):
    if step[0] in ("first", "each"):
        return 1
    # A window step keeps, beside the sums, the number of their window.
    if step[0] == "window" and len(kept) > 0:
        return 1 + len(kept)
    return len(kept)


class Walk:
    def __init__(self, ask):
        refuse_what_is_no_ask(ask)
        self.ask = ask
        self.kept = [{} for step in ask]
        # No row has a moment below 0, so 0 lets in any first row.
        self.newest = 0
        self.ended = False

    def take(self, row):
        refuse_to_take(row, self.ended, self.newest)
        self.newest = row[0]
        told = [row]
        for step, numbers in zip(self.ask, self.kept):
            told = behind_step(step, told, numbers)
        return told

    def end(self):
        refuse_when_ended(self.ended)
        self.ended = True
        told = []
        for step, numbers in zip(self.ask, self.kept):
            told = behind_last_rows(step, told, numbers)
        return told

    def room(self):
        return sum([step_room(step, numbers) for step, numbers in zip(self.ask, self.kept)])
