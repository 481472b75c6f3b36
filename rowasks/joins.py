"""Joins: couples of rows of two logs, of one key and close to one another."""

from rowasks.rows import in_order, refuse_to_take, refuse_what_are_no_two_logs, refuse_when_ended


class Join:
    def __init__(self, width):
        self.width = width
        # Rows of both sides with their side behind them, as they came.
        self.near = []
        # No row has a moment below 0, so 0 lets in any first row.
        self.newest = 0
        self.ended = False

    def take(self, side, row):
        refuse_to_take(row, self.ended, self.newest)
        self.newest = row[0]
        # Moments only rise, so a row that is too far from this one can't meet a later one either.
        self.near = [ahead for ahead in self.near if row[0] - ahead[0] <= self.width]
        told = [couple(ahead, row, side) for ahead in self.near if ahead[3] != side and ahead[1] == row[1]]
        self.near.append(row + (side,))
        return told

    def end(self):
        refuse_when_ended(self.ended)
        self.ended = True
        return self.room()

    def room(self):
        # With a width below 0 the last row itself is not near.
        return len([row for row in self.near if self.newest - row[0] <= self.width])


def couple(ahead, row, side):
    # The number of side 0, the one, stands first, whichever row came first.
    if side == 0:
        return (row[0], row[1], row[2], ahead[2])
    return (row[0], row[1], ahead[2], row[2])


def joined(one, other, width):
    refuse_what_are_no_two_logs(one, other)
    # Of one moment the order stays, so those of the one come ahead of those of the other.
    rows = in_order([row + (0,) for row in one] + [row + (1,) for row in other])
    meeting = Join(width)
    told = []
    for row in rows:
        told.extend(meeting.take(row[3], row[:3]))
    return told
