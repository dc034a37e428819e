"""A store: tables and their versions."""

from entablature.column import is_packing, read_column
from entablature.errors import BadForm, BadKey, BadName, NoSuch, TooMuch
from entablature.schema import check_schema, fits
from entablature.segment import MOST_ROWS, pack_rows
from entablature.table import Table

MOST_TABLES = 20
MOST_TABLE_ROWS = 2000


def segmented(schema, rows, packing, size):
    """Segments for rows, in their order."""
    lines = [tuple(row) for row in rows]
    segments = []
    for at in range(0, len(lines), size):
        octets, bounds = pack_rows(schema[1], lines[at:at + size], packing)
        segments.append((tuple(octets), bounds, ()))
    return segments


def segment_rows(schema, segment):
    """The rows of a segment that are there."""
    columns, _, gone = segment
    values = [read_column(columns[at])[2] for at in range(len(schema[1]))]
    rows = list(zip(*values))
    if not gone:
        return rows
    lost = {at: True for at in gone}
    return [row for at, row in enumerate(rows) if at not in lost]


class Store:
    """Tables with a version that each commit makes one more."""

    def __init__(self):
        # The tables by their names, in the order in which they were created.
        self.tables = {}
        self.now = 0
        # How often a table was created or dropped.
        self.turns = 0

    def table(self, name):
        """The table of a name."""
        if name not in self.tables:
            raise NoSuch()
        return self.tables[name]

    def table_at(self, name, version):
        """The table of a name, if it has a version."""
        table = self.table(name)
        if not table.start <= version <= self.now:
            raise NoSuch()
        return table

    def create(self, schema):
        """Makes a table without rows."""
        check_schema(schema)
        if schema[0] in self.tables:
            raise BadName(-1)
        if len(self.tables) >= MOST_TABLES:
            raise TooMuch()
        self.tables[schema[0]] = Table(schema, self.now)
        self.turns += 1

    def drop(self, name):
        """Takes a table away with all its versions."""
        self.table(name)
        del self.tables[name]
        self.turns += 1

    def schemas(self):
        """The schemas of the tables, in the order of creation."""
        return tuple([table.form for table in self.tables.values()])

    def schema(self, name):
        """The schema of a table."""
        return self.table(name).form

    def version(self):
        """The last version."""
        return self.now

    def commit(self, changes):
        """Makes changes, all or none of them, and tells the new version."""
        steps = self.steps_of(self.checked(changes))
        touched = [name for name in self.tables if name in steps]
        for name in touched:
            if self.tables[name].clashes(steps[name]):
                raise BadKey()
        for name in touched:
            if self.tables[name].size_after(steps[name]) > MOST_TABLE_ROWS:
                raise TooMuch()
        self.now += 1
        for name in touched:
            self.tables[name].change(steps[name], self.now)
        return self.now

    def checked(self, changes):
        """The changes with rows that are tuples and fit."""
        told = []
        for name, gone, new in changes:
            form = self.table(name).form
            for row in list(gone) + list(new):
                if not fits(form, row):
                    raise BadForm()
            told.append((name, [tuple(row) for row in gone], [tuple(row) for row in new]))
        return told

    def steps_of(self, changes):
        """For each table how many times more each row is there behind the changes."""
        steps = {}
        for name, gone, new in changes:
            table = self.table(name)
            more = steps.setdefault(name, {})
            for line in gone:
                if table.count_of(line) + more.get(line, 0) < 1:
                    raise NoSuch()
                more[line] = more.get(line, 0) - 1
            for line in new:
                more[line] = more.get(line, 0) + 1
        return steps

    def rows(self, name, version):
        """The rows of a table at a version."""
        return self.table_at(name, version).rows_at(version)

    def segments(self, name, version):
        """The segments of a table at a version."""
        told = []
        for columns, bounds, gone in self.laid(name, version):
            told.append((tuple([list(column) for column in columns]), bounds, gone))
        return told

    def laid(self, name, version):
        """The same, but their columns are those of the store itself, and only to be read."""
        return self.table_at(name, version).laid_at(version)

    def size_of(self, name):
        """The number of rows of a table at the last version."""
        return self.table(name).size

    def has_version(self, name, version):
        """Whether there is such a version of a table that is there."""
        return self.table(name).start <= version <= self.now

    def leap(self, version):
        """Goes on to a version up to which nothing changes."""
        self.now = version

    def stat(self, name):
        """The number of rows of a table at the last version, and of different values in each column, nulls aside."""
        return self.table(name).stat()

    def pack(self, name, packing):
        """Packs all segments of a table by a packing."""
        table = self.table(name)
        if not is_packing(packing):
            raise BadForm()
        table.repack(packing)

    def settle(self, name, size):
        """Makes new segments of at most so many rows for the last version."""
        table = self.table(name)
        if type(size) is not int or not 1 <= size <= MOST_ROWS:
            raise BadForm()
        table.settle(size, self.now)
