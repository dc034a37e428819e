"""Programs: whether they are right, their footprints and their shapes."""

from entablature.branches import tables_of
from entablature.errors import BadForm, BadKey, BadKind
from entablature.names import is_name
from entablature.operators import kind_of
from entablature.value import KINDS, is_number, is_text, is_value

MOST_PARAMS = 6
MOST_STATEMENTS = 12
MOST_EXPRS = 100
MOST_DEEP = 12
KEYED = ("int", "text")


def is_tuple(x, many):
    """Whether something is a tuple of so many parts."""
    return type(x) is tuple and len(x) == many


def is_place(x):
    """Whether something is a whole number from 0 on."""
    return type(x) is int and x >= 0


def is_kind(x):
    """Whether something is a kind."""
    return type(x) is str and x in KINDS


class Form:
    """Looks at the form of an expression, and counts what is in it."""

    def __init__(self):
        self.many = 0

    def is_expr(self, x, deep):
        """Whether something is an expression that is nested so deep, and of the form that programs use."""
        self.many += 1
        if type(x) is not tuple or len(x) < 2 or type(x[0]) is not str or self.many > MOST_EXPRS or deep > MOST_DEEP:
            return False
        if x[0] == "col":
            return len(x) == 2 and is_place(x[1])
        if len(x) != 3:
            return False
        if x[0] == "const":
            return is_kind(x[1]) and is_value(x[2], x[1])
        if x[0] == "op":
            return type(x[1]) is str and type(x[2]) is tuple and self.are_exprs(x[2], deep + 1)
        return x[0] == "case" and self.is_case(x[1], x[2], deep + 1)

    def are_exprs(self, xs, deep):
        """Whether all of some things are such expressions."""
        for x in xs:
            if not self.is_expr(x, deep):
                return False
        return True

    def is_case(self, pairs, other, deep):
        """Whether these are the parts of a case."""
        if type(pairs) is not tuple or len(pairs) == 0:
            return False
        for pair in pairs:
            if not is_tuple(pair, 2) or not self.are_exprs(pair, deep):
                return False
        return self.is_expr(other, deep)


def is_expr(x):
    """Whether something has the form of an expression of a program."""
    return Form().is_expr(x, 1)


def is_key(x, params):
    """Whether something has the form of a key."""
    if not is_tuple(x, 2) or type(x[0]) is not str:
        return False
    if x[0] == "param":
        return is_place(x[1]) and x[1] < len(params)
    return x[0] == "value" and (is_number(x[1]) or is_text(x[1]))


def are_changes(x):
    """Whether something has the form of the changes of a row."""
    if type(x) is not tuple or len(x) == 0:
        return False
    before = -1
    for pair in x:
        if not is_tuple(pair, 2) or not is_place(pair[0]) or pair[0] <= before or not is_expr(pair[1]):
            return False
        before = pair[0]
    return True


def are_worths(x, params):
    """Whether something has the form of what a row is made of."""
    if type(x) is not tuple or len(x) == 0:
        return False
    return all([is_key(part, params) or is_expr(part) for part in x])


def is_statement(x, params):
    """Whether something has the form of a statement."""
    if type(x) is not tuple or len(x) < 2 or type(x[0]) is not str or type(x[1]) is not str:
        return False
    if x[0] == "ask":
        return len(x) == 2
    if x[0] in ("read", "drop"):
        return len(x) == 3 and is_key(x[2], params)
    if x[0] == "set":
        return len(x) == 4 and is_key(x[2], params) and are_changes(x[3])
    return x[0] == "put" and len(x) == 3 and are_worths(x[2], params)


def is_program(x):
    """Whether something has the form of a program."""
    if not is_tuple(x, 3) or not is_name(x[0]):
        return False
    if type(x[1]) is not tuple or len(x[1]) > MOST_PARAMS or not all([is_kind(kind) for kind in x[1]]):
        return False
    if type(x[2]) is not tuple or not 1 <= len(x[2]) <= MOST_STATEMENTS:
        return False
    return all([is_statement(statement, x[1]) for statement in x[2]])


def key_column(schema):
    """The place of the key's column of a table that programs can use, or None."""
    keys = schema[2]
    if len(keys) != 1 or len(keys[0]) != 1 or schema[1][keys[0][0]][1] not in KEYED:
        return None
    return keys[0][0]


def demand(holds):
    """Refuses what does not fit."""
    if not holds:
        raise BadKind(-1)


def kind_in(expr, row):
    """The kind of an expression over a row of kinds."""
    word = expr[0]
    if word == "col":
        demand(expr[1] < len(row))
        return row[expr[1]]
    if word == "const":
        return expr[1]
    if word == "op":
        kind = kind_of(expr[1], tuple([kind_in(arg, row) for arg in expr[2]]))
        demand(kind is not None)
        return kind
    kinds = []
    for cond, worth in expr[1]:
        demand(kind_in(cond, row) == "bool")
        kinds.append(kind_in(worth, row))
    kinds.append(kind_in(expr[2], row))
    demand(all([kind == kinds[0] for kind in kinds]))
    return kinds[0]


def kind_of_key(key, params):
    """The kind of a key."""
    if key[0] == "param":
        return params[key[1]]
    return "int" if type(key[1]) is int else "text"


class Checking:
    """Looks whether the statements of a program of the right form fit the tables, one after the other."""

    def __init__(self, params, database):
        self.params = params
        self.database = database
        # The kinds of what a run knows so far.
        self.known = tuple(params)

    def statement(self, statement):
        """Looks at a statement."""
        word = statement[0]
        if word == "ask":
            self.database.bound(statement[1])
            return
        schema = self.database.schema(statement[1])
        place = key_column(schema)
        if place is None:
            raise BadKey()
        kinds = tuple([column[1] for column in schema[1]])
        if word == "put":
            self.worths(statement[2], kinds, place)
            return
        demand(kind_of_key(statement[2], self.params) == kinds[place])
        if word == "set":
            for at, expr in statement[3]:
                demand(at < len(kinds) and at != place)
                demand(kind_in(expr, self.known + kinds) == kinds[at])
        if word == "read":
            self.known = self.known + kinds

    def worths(self, worths, kinds, place):
        """Looks at what a row is made of."""
        demand(len(worths) == len(kinds))
        for at, worth in enumerate(worths):
            demand(is_key(worth, self.params) == (at == place))
            kind = kind_of_key(worth, self.params) if at == place else kind_in(worth, self.known)
            demand(kind == kinds[at])


def check_program(program, database):
    """Refuses what is no right program."""
    if not is_program(program):
        raise BadForm()
    checking = Checking(program[1], database)
    for statement in program[2]:
        checking.statement(statement)


def check_values(program, values):
    """Refuses what are no values for the parameters of a program."""
    params = program[1]
    if not is_tuple(values, len(params)):
        raise BadForm()
    for x, kind in zip(values, params):
        if x is None or not is_value(x, kind):
            raise BadForm()


def key_of(statement, database):
    """The key of a statement that is no ask."""
    if statement[0] != "put":
        return statement[2]
    return statement[2][key_column(database.schema(statement[1]))]


def entries_of(statement, database):
    """The entries of a statement."""
    word = statement[0]
    if word == "ask":
        plan, _ = database.bound(statement[1])
        return tuple([("a", name) for name in tables_of(plan)])
    name, key = statement[1], key_of(statement, database)
    if word == "read":
        return (("r", name, key),)
    if word == "set":
        return (("r", name, key), ("w", name, key))
    return (("w", name, key),)


def all_entries(program, database):
    """For each statement of a right program its entries."""
    return tuple([entries_of(statement, database) for statement in program[2]])


def footprint(program, database):
    """The footprint of a right program."""
    return all_entries(program, database)


def worth_of(key, values):
    """The value of a key."""
    return values[key[1]] if key[0] == "param" else key[1]


def entry_of_run(entry, values):
    """An entry with the value of its key."""
    if entry[0] == "a":
        return entry
    return (entry[0], entry[1], worth_of(entry[2], values))


def run_footprint(footprint, values):
    """The footprint of a run with such values."""
    return tuple([tuple([entry_of_run(entry, values) for entry in entries]) for entries in footprint])


def shape(program, database):
    """The name of a program, its parameters and its entries, one behind the other."""
    found = []
    for entries in all_entries(program, database):
        found.extend(entries)
    return (program[0], program[1], tuple(found))
