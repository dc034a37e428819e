"""Puts rows into an order with few of them held at one time."""

from heapq import heappop, heappush

from entablature.value import order_key, row_key


class Sorter:
    """Rows with the keys by which they are ordered.

    As many as there is room for are ordered at once and written to the spool as a run; the runs are merged.
    """

    def __init__(self, room):
        self.room = room
        self.pairs = []
        self.runs = []
        room.holders.append(self)

    def put(self, key, row):
        """Takes a row."""
        self.room.take()
        self.pairs.append((key, row))

    def spill(self):
        """Writes the rows that are held to the spool."""
        if self.pairs:
            self.write(sorted(self.pairs, key=lambda pair: pair[0]))
            self.room.free(len(self.pairs))
            self.pairs = []

    def write(self, run):
        """Writes a run to the spool."""
        self.room.meter.spooled += len(run)
        self.runs.append(run)

    def merge(self, runs):
        """Merges runs; of each one row is held at a time."""
        heads = []
        for number, run in enumerate(runs):
            heappush(heads, (run[0][0], number, 0))
        self.room.meter.holds(len(heads))
        told = []
        while heads:
            _, number, at = heappop(heads)
            told.append(runs[number][at])
            if at + 1 < len(runs[number]):
                heappush(heads, (runs[number][at + 1][0], number, at + 1))
        self.write(told)

    def told(self):
        """All pairs of a key and a row in their order; none may come behind that."""
        if not self.runs:
            return sorted(self.pairs, key=lambda pair: pair[0])
        self.spill()
        while len(self.runs) > 1:
            many = min(len(self.runs), self.room.meter.budget)
            runs = self.runs[:many]
            self.runs = self.runs[many:]
            self.merge(runs)
        return self.runs[0]

    def let_go(self, many):
        """So many of the rows that were told are not held here any more."""
        if not self.runs:
            self.room.free(many)


def turned_key(x):
    """What a value that is not null is sorted by where the greatest one is the first."""
    if type(x) is str:
        return tuple([-ord(sign) for sign in x]) + (1,)
    return -int(x)


def item_key(x, item):
    """What the value of an item of an order is sorted by."""
    if x is None:
        return (0, 0) if item[2] else (2, 0)
    return (1, turned_key(x) if item[1] else x)


def items_key(values, items, row):
    """What a row is sorted by that has such values for the items of an order."""
    return (tuple([item_key(x, item) for x, item in zip(values, items)]), row_key(row))


def values_key(values):
    """What the values of a key are sorted by."""
    return tuple([order_key(x) for x in values])
