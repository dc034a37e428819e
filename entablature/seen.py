"""What a run sees: the tables of a version, with what it has written itself."""

from entablature.errors import NoSuch
from entablature.programs import key_column
from entablature.store import segmented

MOST_SEGMENT_ROWS = 256
PLAIN = 0


class Seen:
    """The tables of a version, and rows in the place of some of theirs."""

    def __init__(self, database, version):
        if not 0 <= version <= database.version():
            raise NoSuch()
        self.database = database
        self.version = version
        # By tables: the rows of the version by their keys, and those that were written, None where one is gone.
        self.before = {}
        self.written = {}

    def keyed(self, name):
        """The rows of a table at the version by their keys; its key's place must be there."""
        if name not in self.before:
            place = key_column(self.database.schema(name))
            rows = self.database.store.rows(name, self.version)
            self.before[name] = {row[place]: row for row in rows}
        return self.before[name]

    def row(self, name, value):
        """The row with a key, or None."""
        written = self.written.get(name, {})
        return written[value] if value in written else self.keyed(name).get(value)

    def rows(self, name):
        """The rows of a table."""
        if not self.written.get(name):
            return self.database.store.rows(name, self.version)
        written = self.written[name]
        kept = [row for value, row in self.keyed(name).items() if value not in written]
        return kept + [row for row in written.values() if row is not None]

    def write(self, name, value, row):
        """Puts a row in the place of that with its key; None takes it away."""
        self.keyed(name)
        self.written.setdefault(name, {})[value] = None if row is None else tuple(row)

    def ask(self, text, choice, settings):
        """What an ask tells of a query."""
        return self.database.told(text, self, choice, settings)

    def change_of(self, name):
        """The rows of a table that go, and those that come, by their keys."""
        before = self.keyed(name)
        written = self.written[name]
        gone = []
        new = []
        for value in sorted(written):
            old = before.get(value)
            if old != written[value]:
                gone.extend([] if old is None else [old])
                new.extend([] if written[value] is None else [written[value]])
        return tuple(gone), tuple(new)

    def changes(self):
        """The changes against the version, for each table that changes."""
        told = []
        for schema in self.database.schemas():
            if schema[0] in self.written:
                gone, new = self.change_of(schema[0])
                if gone or new:
                    told.append((schema[0], gone, new))
        return tuple(told)

    def segments(self, names):
        """The schemas and the segments of some tables, only to be read."""
        told = {}
        for name in names:
            if self.written.get(name):
                schema = self.database.schema(name)
                told[name] = (schema, segmented(schema, self.rows(name), PLAIN, MOST_SEGMENT_ROWS))
            else:
                told.update(self.database.segments((name,), self.version))
        return told
