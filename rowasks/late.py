"""Late rows: a sorter that puts rows in their order as they come."""

from rowasks.errors import TooLate
from rowasks.rows import in_order, refuse_to_take, refuse_when_ended


class Sorter:
    def __init__(self, late):
        self.late = late
        # The newest moment less late; ahead of any row so low that none is too late.
        self.bound = min(0, -late)
        self.waiting = []
        self.lost = 0
        self.ended = False

    def take(self, row):
        refuse_to_take(row, self.ended, self.bound)
        self.bound = max(self.bound, row[0] - self.late)
        # Put in order behind those that wait, a row stands behind all that came ahead of it with its moment.
        rows = in_order(self.waiting + [row])
        self.waiting = [later for later in rows if later[0] > self.bound]
        return [told for told in rows if told[0] <= self.bound]

    def drop_or_take(self, row):
        try:
            return self.take(row)
        except TooLate:
            self.lost = self.lost + 1
            return []

    def end(self):
        refuse_when_ended(self.ended)
        self.ended = True
        told = self.waiting
        self.waiting = []
        return told

    def waits(self):
        return list(self.waiting)

    def many_lost(self):
        return self.lost
