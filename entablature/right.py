"""Rights: which rows of which tables a user sees, and which programs the user may run."""

from entablature.branches import args_of
from entablature.errors import BadForm, BadKind
from entablature.names import is_name
from entablature.operators import may_fault
from entablature.prepared import prepared
from entablature.programs import is_expr, is_tuple, kind_in
from entablature.seen import MOST_SEGMENT_ROWS, PLAIN, Seen
from entablature.store import segmented
from entablature.view import View, net, repeated

NOTHING = "none"
ALL = "all"


def has_no_faults(expr):
    """Whether no operator of an expression can give a fault."""
    if expr[0] == "op" and may_fault(expr[1]):
        return False
    return all([has_no_faults(arg) for arg in args_of(expr)])


def is_what(x):
    """Whether something has the form of what a right says of a table."""
    if type(x) is str:
        return x in (NOTHING, ALL)
    return is_expr(x) and has_no_faults(x)


def are_different_names(x):
    """Whether something is a tuple of different names."""
    return type(x) is tuple and all([is_name(name) for name in x]) and len({name for name in x}) == len(x)


def is_right(x):
    """Whether something has the form of a right."""
    if not is_tuple(x, 2) or type(x[0]) is not tuple or not are_different_names(x[1]):
        return False
    if not all([is_tuple(pair, 2) and is_what(pair[1]) for pair in x[0]]):
        return False
    return are_different_names(tuple([pair[0] for pair in x[0]]))


def check_right(right, database):
    """Refuses what is no right."""
    if not is_right(right):
        raise BadForm()
    for name, what in right[0]:
        columns = database.schema(name)[1]
        if what not in (NOTHING, ALL) and kind_in(what, tuple([column[1] for column in columns])) != "bool":
            raise BadKind(-1)


def right_of(right, name):
    """What a right says of a table."""
    for other, what in right[0]:
        if other == name:
            return what
    return NOTHING


def is_seen(what, row):
    """Whether a row is seen."""
    if what in (NOTHING, ALL):
        return what == ALL
    action = prepared(what)
    return action(tuple(row)) is True


def rows_seen(what, rows):
    """Those of some rows that are seen, in their order."""
    if what == ALL:
        return list(rows)
    if what == NOTHING:
        return []
    action = prepared(what)
    return [row for row in rows if action(tuple(row)) is True]


def seen_rows(right, name, rows):
    """Those of some rows of a table that are seen, in their order."""
    return rows_seen(right_of(right, name), rows)


class SeenBy(Seen):
    """What a user sees of the tables of a version."""

    def __init__(self, database, version, right):
        super().__init__(database, version)
        self.right = right

    def row(self, name, value):
        """The row with a key, or None."""
        row = super().row(name, value)
        return row if row is not None and is_seen(right_of(self.right, name), row) else None

    def rows(self, name):
        """The rows of a table."""
        return seen_rows(self.right, name, super().rows(name))

    def segments(self, names):
        """The schemas and the segments of some tables, only to be read."""
        told = {}
        for name in names:
            if right_of(self.right, name) == ALL:
                told.update(super().segments((name,)))
            else:
                schema = self.database.schema(name)
                told[name] = (schema, segmented(schema, self.rows(name), PLAIN, MOST_SEGMENT_ROWS))
        return told


def put_together(a, b, word, strong, weak):
    """What two rights say of a table, put together by an operator; what is strong counts alone, what is weak not."""
    if a == b or b == weak:
        return a
    if a == weak:
        return b
    if strong in (a, b):
        return strong
    return ("op", word, (a, b))


def tables_together(a, b, word, strong, weak):
    """The tables that either right names, with what both say, put together."""
    names = [name for name, _ in a[0]]
    names.extend([name for name, _ in b[0] if name not in names])
    return tuple([(name, put_together(right_of(a, name), right_of(b, name), word, strong, weak)) for name in names])


def joined(a, b):
    """The right that sees what either sees."""
    programs = a[1] + tuple([name for name in b[1] if name not in a[1]])
    return (tables_together(a, b, "or", ALL, NOTHING), programs)


def met(a, b):
    """The right that sees what both see."""
    return (tables_together(a, b, "and", NOTHING, ALL), tuple([name for name in a[1] if name in b[1]]))


def is_within(a, b, database, version):
    """Whether a right sees nothing at a version, and names no program, that another one does not."""
    if any([name not in b[1] for name in a[1]]):
        return False
    for schema in database.schemas():
        name = schema[0]
        if not database.store.has_version(name, version):
            continue
        rows = seen_rows(a, name, database.store.rows(name, version))
        if len(seen_rows(b, name, rows)) < len(rows):
            return False
    return True


def is_enough(right, footprint):
    """Whether a right says "all" of each table that a program reads or asks."""
    looks = [entry for entries in footprint for entry in entries if entry[0] != "w"]
    return all([right_of(right, entry[1]) == ALL for entry in looks])


def seen_change(right, change):
    """The change of the seen rows by a change of tables."""
    told = {}
    for name, (gone, new) in change.items():
        what = right_of(right, name)
        counts = net(rows_seen(what, gone), rows_seen(what, new))
        told[name] = (repeated(counts, -1), repeated(counts, 1))
    return told


class SeenView:
    """The rows of a view over the seen rows, kept."""

    def __init__(self, database, name, right):
        named = database.view_of(name)
        version = database.version()
        tables = {}
        for table in named.tables:
            tables[table] = seen_rows(right, table, database.store.rows(table, version))
        self.right = right
        self.keeping = View(named.plan, database.schemas(), tables)

    def rows(self):
        """The rows, by their order."""
        return self.keeping.rows()

    def change(self, change):
        """Follows a change of the tables."""
        self.keeping.change(seen_change(self.right, change))
