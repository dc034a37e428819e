"""Runs of programs: each on a snapshot, with what it has written itself."""

from entablature.errors import BadForm, Stale
from entablature.prepared import prepared
from entablature.programs import all_entries, check_values, key_column, key_of, run_footprint, worth_of
from entablature.seen import Seen
from entablature.value import is_value

LEVELS = ("loose", "strict")
BLANK = {"int": 0, "text": "", "bool": False}


def may_stand(x, column):
    """Whether a value or fault may stand in a column."""
    return is_value(x, column[1]) and (x is not None or column[2])


def blank(column):
    """What a column gets where what was worked out for it may not stand there."""
    return None if column[2] else BLANK[column[1]]


class Run:
    """One run of a right program."""

    def __init__(self, database, program, values, level, snapshot):
        check_values(program, values)
        if level not in LEVELS:
            raise BadForm()
        self.database = database
        self.program = program
        self.given = values
        self.level = level
        self.snapshot = snapshot
        self.told = ()
        self.seen = Seen(database, snapshot)
        self.entries = run_footprint(all_entries(program, database), values)
        # What the run knows so far.
        self.known = tuple(values)
        for entries in self.entries:
            for entry in entries:
                database.store.table_at(entry[1], snapshot)

    def is_over(self):
        """Whether all statements are done."""
        return len(self.told) == len(self.program[2])

    def step(self, *, choice=0, budget=1000, batch=64, workers=1, turns=()):
        """Does the next statement, and tells what that tells."""
        if self.is_over():
            raise BadForm()
        statement = self.program[2][len(self.told)]
        told = None
        if statement[0] == "ask":
            told = self.database.told(statement[1], self.seen, choice, (budget, batch, workers, turns))
        elif statement[0] == "read":
            told = self.read(statement)
        elif statement[0] == "set":
            self.set_row(statement)
        elif statement[0] == "put":
            self.put_row(statement)
        else:
            self.seen.write(statement[1], worth_of(statement[2], self.given), None)
        self.told = self.told + (told,)
        return told

    def read(self, statement):
        """Looks at a row."""
        row = self.seen.row(statement[1], worth_of(statement[2], self.given))
        columns = self.database.schema(statement[1])[1]
        self.known = self.known + ((None,) * len(columns) if row is None else row)
        return row

    def set_row(self, statement):
        """Changes some columns of a row."""
        _, name, key, changes = statement
        value = worth_of(key, self.given)
        row = self.seen.row(name, value)
        if row is None:
            return
        columns = self.database.schema(name)[1]
        new = list(row)
        for at, expr in changes:
            action = prepared(expr)
            x = action(self.known + row)
            if may_stand(x, columns[at]):
                new[at] = x
        self.seen.write(name, value, tuple(new))

    def put_row(self, statement):
        """Puts a row."""
        _, name, worths = statement
        schema = self.database.schema(name)
        place = key_column(schema)
        value = worth_of(key_of(statement, self.database), self.given)
        new = []
        for at, column in enumerate(schema[1]):
            if at == place:
                new.append(value)
                continue
            action = prepared(worths[at])
            x = action(self.known)
            new.append(x if may_stand(x, column) else blank(column))
        self.seen.write(name, value, tuple(new))

    def finish(self):
        """Does all statements that are left, and tells what all have told."""
        while not self.is_over():
            self.step()
        return self.told

    def footprint(self):
        """The footprint of the run."""
        return self.entries

    def changes(self):
        """The changes against the snapshot."""
        return self.seen.changes()


def writes(footprint):
    """The objects that a run writes."""
    return tuple({(entry[1], entry[2]): True for entries in footprint for entry in entries if entry[0] == "w"})


def is_stale(level, snapshot, footprint, commits):
    """Whether a run with such a footprint may not be committed behind some commits."""
    objects = {}
    tables = {}
    for version, other in commits:
        if version > snapshot:
            for name, value in writes(other):
                objects[(name, value)] = True
                tables[name] = True
    for entries in footprint:
        for entry in entries:
            if entry[0] == "a":
                if level == "strict" and entry[1] in tables:
                    return True
            elif (entry[0] == "w" or level == "strict") and (entry[1], entry[2]) in objects:
                return True
    return False


def commit(run, commits):
    """Commits a run that is over, and tells the version; it is put behind the commits."""
    if not run.is_over():
        raise BadForm()
    if is_stale(run.level, run.snapshot, run.footprint(), commits):
        raise Stale()
    version = run.database.commit(run.changes())
    commits.append((version, run.footprint()))
    return version
