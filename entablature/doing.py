"""The statements of programs, done one after the other on what a run sees."""

from entablature.prepared import prepared
from entablature.programs import key_column, key_of, worth_of
from entablature.value import is_value

BLANK = {"int": 0, "text": "", "bool": False}


def may_stand(x, column):
    """Whether a value or fault may stand in a column."""
    return is_value(x, column[1]) and (x is not None or column[2])


def blank(column):
    """What a column gets where what was worked out for it may not stand there."""
    return None if column[2] else BLANK[column[1]]


class Hand:
    """Does the statements of a right program; seen tells rows and asks, and takes what is written."""

    def __init__(self, database, program, values, seen):
        self.database = database
        self.program = program
        self.given = values
        self.seen = seen
        # What the run knows so far.
        self.known = tuple(values)

    def step(self, at, choice, settings):
        """Does the statement at a place, and tells what that tells."""
        statement = self.program[2][at]
        if statement[0] == "ask":
            return self.seen.ask(statement[1], choice, settings)
        if statement[0] == "read":
            return self.read(statement)
        if statement[0] == "set":
            self.set_row(statement)
        elif statement[0] == "put":
            self.put_row(statement)
        else:
            self.seen.write(statement[1], worth_of(statement[2], self.given), None)
        return None

    def read(self, statement):
        """Looks at a row."""
        row = self.seen.row(statement[1], worth_of(statement[2], self.given))
        columns = self.database.schema(statement[1])[1]
        self.known = self.known + ((None,) * len(columns) if row is None else row)
        return row

    def set_row(self, statement):
        """Changes some columns of a row."""
        _, name, key, changes = statement
        value = worth_of(key, self.given)
        row = self.seen.row(name, value)
        if row is None:
            return
        columns = self.database.schema(name)[1]
        new = list(row)
        for at, expr in changes:
            action = prepared(expr)
            x = action(self.known + row)
            if may_stand(x, columns[at]):
                new[at] = x
        self.seen.write(name, value, tuple(new))

    def put_row(self, statement):
        """Puts a row."""
        _, name, worths = statement
        schema = self.database.schema(name)
        place = key_column(schema)
        value = worth_of(key_of(statement, self.database), self.given)
        new = []
        for at, column in enumerate(schema[1]):
            if at == place:
                new.append(value)
                continue
            action = prepared(worths[at])
            x = action(self.known)
            new.append(x if may_stand(x, column) else blank(column))
        self.seen.write(name, value, tuple(new))
