"""Runs told serially: each on the plain tables that the ones ahead of it made."""

from entablature.doing import Hand
from entablature.errors import NoSuch
from entablature.programs import key_column
from entablature.store import segmented

PLAIN = 0
MOST_SEGMENT_ROWS = 256
SETTINGS = (1000, 64, 1, ())


def plain_table(schema, rows):
    """Rows by the values of their key, or by 0, 1, .. where programs cannot use the table."""
    place = key_column(schema)
    if place is None:
        return {at: tuple(row) for at, row in enumerate(rows)}
    return {row[place]: tuple(row) for row in rows}


def plain_tables(database, version):
    """The tables of a version as plain ones."""
    if not 0 <= version <= database.version():
        raise NoSuch()
    told = {}
    for schema in database.schemas():
        if database.store.has_version(schema[0], version):
            told[schema[0]] = plain_table(schema, database.store.rows(schema[0], version))
    return told


def asked(database, text, tables):
    """What an ask tells of a query on plain tables: its rows as a tuple, or a fault."""
    query = database.asked_of(text)
    rows = {name: list(tables[name].values()) for name in query.tables}
    if query.is_little(rows):
        return database.told_straight(query, rows)
    segments = {}
    for name in query.tables:
        schema = database.schema(name)
        segments[name] = (schema, segmented(schema, rows[name], PLAIN, MOST_SEGMENT_ROWS))
    return database.told_on(text, segments, 0, SETTINGS)


class PlainSeen:
    """What a run sees that stands on plain tables, which stay as they are."""

    def __init__(self, database, tables):
        self.database = database
        self.tables = {name: tables[name] for name in tables}
        # The tables of which there is a copy with what was written.
        self.copied = {}
        self.written = []

    def row(self, name, value):
        """The row with a key, or None."""
        return self.tables[name].get(value)

    def ask(self, text, choice, settings):
        """What an ask tells of a query."""
        return asked(self.database, text, self.tables)

    def write(self, name, value, row):
        """Puts a row in the place of that with its key; None takes it away."""
        if name not in self.copied:
            self.copied[name] = True
            self.tables[name] = {key: told for key, told in self.tables[name].items()}
        rows = self.tables[name]
        if row is not None:
            rows[value] = row
        elif value in rows:
            del rows[value]
        self.written.append((name, value, row))


def plain_run(database, program, values, tables):
    """What a run tells on plain tables, and what it writes, one after the other."""
    seen = PlainSeen(database, tables)
    hand = Hand(database, program, values, seen)
    told = [hand.step(at, 0, SETTINGS) for at in range(len(program[2]))]
    return tuple(told), tuple(seen.written)


def made_behind(tables, writes):
    """Plain tables behind some writes; those that do not change are the ones handed in."""
    seen = PlainSeen(None, tables)
    for name, value, row in writes:
        seen.write(name, value, row)
    return seen.tables


def copied(tables):
    """Plain tables of their own."""
    return {name: {key: row for key, row in tables[name].items()} for name in tables}


def behind(tables, writes):
    """Plain tables behind some writes; those handed in stay."""
    return copied(made_behind(tables, writes))


def serially(database, programs, history, order, tables):
    """What the runs of a history tell one after the other, and the tables behind them."""
    told = []
    for at in order:
        name, values = history[at][0], history[at][1]
        found, writes = plain_run(database, programs[name], values, tables)
        told.append(found)
        tables = made_behind(tables, writes)
    return tuple(told), copied(tables)
