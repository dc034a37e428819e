"""Rows that lie together, with the versions from which and up to which each one is there."""

from entablature.bound import bound
from entablature.column import best, can_pack, written

MOST_ROWS = 256


def pack_column(values, kind, packing):
    """A column by a packing if that is one that can be used, otherwise by the best one."""
    if packing is None or not can_pack(kind, packing):
        return written(values, kind, best(values, kind))
    return written(values, kind, packing)


def pack_rows(columns, lines, packing):
    """The packed columns and the bounds of some rows, for the columns of a schema."""
    values = [[line[at] for line in lines] for at in range(len(columns))]
    octets = [pack_column(values[at], columns[at][1], packing) for at in range(len(columns))]
    return octets, tuple([bound(column) for column in values])


class Segment:
    """At most so many rows; rows that come later may join it, and are gone at earlier versions."""

    def __init__(self, packing):
        self.packing = packing
        self.lines = []
        self.born = []
        # For each row the version from which on it is gone, or None.
        self.lost = []
        self.octets = None
        self.bounds = ()

    def take(self, line, now):
        """Takes a row that is there from a version on, and tells its place."""
        self.lines.append(line)
        self.born.append(now)
        self.lost.append(None)
        self.octets = None
        return len(self.lines) - 1

    def lose(self, at, now):
        """The row at a place is gone from a version on."""
        self.lost[at] = now

    def repack(self, packing):
        """From now on its columns are packed by this packing."""
        self.packing = packing
        self.octets = None

    def is_there(self, at, now):
        """Whether the row at a place is there at a version."""
        lost = self.lost[at]
        return self.born[at] <= now and (lost is None or lost > now)

    def there(self, now):
        """The rows that are there at a version."""
        return [self.lines[at] for at in range(len(self.lines)) if self.is_there(at, now)]

    def laid(self, columns, now):
        """The columns, the bounds and the places of the rows that are not there at a version.

        The columns are those of the segment itself, and are only to be read.
        """
        gone = [at for at in range(len(self.lines)) if not self.is_there(at, now)]
        if self.octets is None:
            self.octets, self.bounds = pack_rows(columns, self.lines, self.packing)
        return self.octets, self.bounds, tuple(gone)
