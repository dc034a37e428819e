"""The rows of views within runs, told in two ways."""

from entablature.run import bag_of
from entablature.value import sorted_rows
from entablature.view import View, net, repeated


def rows_in(database, name, seen):
    """The rows of a view as its query means, on the tables that a run sees."""
    named = database.view_of(name)
    return sorted_rows(bag_of(database.view_running(name), seen.segments(named.tables)))


def rows_back(database, name, seen):
    """The same from the kept rows of the last version, by the change that leads from there to what the run sees."""
    named = database.view_of(name)
    last = database.version()
    tables = {table: database.store.rows(table, last) for table in named.tables}
    change = {}
    for table in named.tables:
        counts = net(tables[table], seen.rows(table))
        change[table] = (repeated(counts, -1), repeated(counts, 1))
    told = View(named.plan, database.schemas(), tables).step(change)
    return repeated(net(repeated(told, -1), database.kept(name) + repeated(told, 1)), 1)
