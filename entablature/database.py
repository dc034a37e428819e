"""A database: a store with views, asked by queries at each of its versions."""

from entablature.binder import bound_with
from entablature.branches import scans_of, tables_of
from entablature.errors import BadKey, BadKind, BadName, NoSuch, TooMuch
from entablature.estimate import cost
from entablature.grammar import parse
from entablature.meaning import answer
from entablature.names import is_name
from entablature.optimise import candidates, running_by
from entablature.piece import piece_of
from entablature.run import run
from entablature.schema import check_schema
from entablature.sources import Known
from entablature.store import Store
from entablature.tighten import tightened
from entablature.value import is_fault
from entablature.view import View, kept_piece

MOST_VIEWS = 10
# So many queries are kept bound, so that one that is asked again need not be read again.
MOST_KEPT = 300
# So few ways to take rows for the scans of a query are gone through one by one.
FEW_WAYS = 2500
# Tables may grow or shrink by so many rows before runs look for other candidates.
SPARE_ROWS = 20


class Named:
    """A view: the text of its query, what that was bound to, and its kept rows."""

    def __init__(self, text, bound, schemas, tables):
        self.text = text
        self.plan, self.names, self.kinds = bound
        self.tables = tables_of(self.plan)
        self.keeping = View(self.plan, schemas, tables)
        # By which running plan its rows are worked out anew, once somebody asks.
        self.running = None

    def known(self):
        """What stands for the name of the view in queries."""
        return Known(self.plan, self.names, self.kinds, 0)


class Asked:
    """A query that was bound, and its candidates for the last version."""

    def __init__(self, plan, names):
        self.plan = plan
        self.names = names
        self.scans = scans_of(plan)
        self.tables = tuple(sorted(self.scans))
        # The version for which these are the candidates.
        self.at = None
        self.ways = []
        # How many rows the tables had when runs asked for candidates.
        self.rows = 0

    def is_little(self, rows):
        """Whether there are only few ways to take a row for each scan, if the tables have such rows."""
        many = 1
        for name, times in self.scans.items():
            for _ in range(times):
                many = many * max(len(rows[name]), 1)
                if many > FEW_WAYS:
                    return False
        return True


class Database:
    """Tables and views."""

    def __init__(self):
        self.store = Store()
        # The views by their names, in the order of creation.
        self.named = {}
        # Queries that were bound, as long as the tables and views stay the same.
        self.asked = {}
        self.turns = 0
        self.kept_at = None

    def create(self, schema):
        """Makes a table without rows."""
        check_schema(schema)
        if schema[0] in self.named:
            raise BadName(-1)
        self.store.create(schema)

    def drop(self, name):
        """Takes a table away with all its versions."""
        self.store.schema(name)
        for named in self.named.values():
            if name in named.tables:
                raise BadKey()
        self.store.drop(name)

    def schemas(self):
        """The schemas of the tables, in the order of creation."""
        return self.store.schemas()

    def schema(self, name):
        """The schema of a table."""
        return self.store.schema(name)

    def version(self):
        """The last version."""
        return self.store.version()

    def pack(self, name, packing):
        """Packs all segments of a table by a packing."""
        self.store.pack(name, packing)

    def settle(self, name, size):
        """Makes new segments of at most so many rows for the last version."""
        self.store.settle(name, size)

    def commit(self, changes):
        """Makes changes, all or none of them, and tells the new version; the views follow."""
        version = self.store.commit(changes)
        if self.named:
            change = {}
            for name, gone, new in changes:
                before = change.get(name, ([], []))
                change[name] = (before[0] + list(gone), before[1] + list(new))
            for named in self.named.values():
                named.keeping.change(change)
        return version

    def bound_over(self, text, known):
        """What a query is bound to, with queries that stand under a name."""
        return bound_with(parse(text), self.store.schemas(), known)

    def view(self, name, text):
        """Makes a view."""
        if not is_name(name) or name in self.named or name in [schema[0] for schema in self.schemas()]:
            raise BadName(-1)
        if len(self.named) >= MOST_VIEWS:
            raise TooMuch()
        bound = self.bound_over(text, {})
        schemas = self.schemas()
        if kept_piece(bound[0], schemas) is None:
            raise BadKind(-1)
        tables = {table: self.store.rows(table, self.version()) for table in tables_of(bound[0])}
        self.named[name] = Named(text, bound, schemas, tables)
        self.turns += 1

    def drop_view(self, name):
        """Takes a view away."""
        self.view_of(name)
        del self.named[name]
        self.turns += 1

    def view_of(self, name):
        """The view of a name."""
        if name not in self.named:
            raise NoSuch()
        return self.named[name]

    def view_running(self, name):
        """A running plan whose rows are those of the plan of a view, with faults where they stand there."""
        named = self.view_of(name)
        if named.running is None:
            piece = piece_of(named.plan, {schema[0]: schema for schema in self.schemas()})
            named.running = running_by(tightened(piece), "hash")
        return named.running

    def views(self):
        """The names of the views, in the order of creation."""
        return tuple(self.named)

    def kept(self, name):
        """The kept rows of a view, by their order."""
        return self.view_of(name).keeping.rows()

    def asked_of(self, text):
        """A query that is bound, views in their places."""
        now = (self.store.turns, self.turns)
        if self.kept_at != now or len(self.asked) >= MOST_KEPT:
            self.asked = {}
            self.kept_at = now
        if text not in self.asked:
            plan, names, _ = self.bound_over(text, {name: named.known() for name, named in self.named.items()})
            self.asked[text] = Asked(plan, names)
        return self.asked[text]

    def bound(self, text):
        """The plan of a query, views in their places, and the names of its columns."""
        asked = self.asked_of(text)
        return asked.plan, asked.names

    def stats(self, names):
        """The statistics of some tables."""
        return {name: self.store.stat(name) for name in names}

    def candidate(self, asked, choice):
        """One of the candidates for a query."""
        if asked.at != self.version():
            asked.ways = candidates(asked.plan, self.schemas(), self.stats(asked.tables))
            asked.at = self.version()
        return asked.ways[int(choice) % len(asked.ways)]

    def segments(self, names, version):
        """The schemas and the segments of some tables at a version, only to be read."""
        return {name: (self.store.schema(name), self.store.laid(name, version)) for name in names}

    def query(self, text, *, version=None, choice=0, budget=1000, batch=64, workers=1, turns=()):
        """The names of a query's columns, and its answer."""
        asked = self.asked_of(text)
        now = self.version() if version is None else version
        if not 0 <= now <= self.version():
            raise NoSuch()
        tables = self.segments(asked.tables, now)
        running = self.candidate(asked, choice)[1]
        return asked.names, run(running, tables, budget=budget, batch=batch, workers=workers, turns=turns)[0]

    def way(self, asked, choice):
        """The running plan of one of the candidates, which may be those for tables that had about so many rows."""
        rows = sum([self.store.size_of(name) for name in asked.tables])
        if asked.at is None or not asked.rows <= 2 * rows + SPARE_ROWS or not rows <= 2 * asked.rows + SPARE_ROWS:
            asked.rows = rows
            return self.candidate(asked, choice)[1]
        return asked.ways[int(choice) % len(asked.ways)][1]

    def told_on(self, text, tables, choice, settings):
        """What an ask tells of a query on segments of tables: its rows as a tuple, or a fault."""
        running = self.way(self.asked_of(text), choice)
        budget, batch, workers, turns = settings
        found = run(running, tables, budget=budget, batch=batch, workers=workers, turns=turns)[0]
        return found if is_fault(found) else tuple(found)

    def told_straight(self, asked, rows):
        """The same on the rows of tables, by what the plan means."""
        found = answer(asked.plan, {name: (self.schema(name), rows[name]) for name in asked.tables})
        return found if is_fault(found) else tuple(found)

    def told(self, text, seen, choice, settings):
        """The same on the tables that a run sees; where little is to be done no plan is chosen for that."""
        asked = self.asked_of(text)
        rows = {name: seen.rows(name) for name in asked.tables}
        if asked.is_little(rows):
            return self.told_straight(asked, rows)
        return self.told_on(text, seen.segments(asked.tables), choice, settings)

    def become(self, other):
        """Takes over all that another database has."""
        self.store = other.store
        self.named = other.named
        self.asked = {}
        self.kept_at = None

    def leap(self, version):
        """Goes on to a version up to which nothing changes."""
        self.store.leap(version)

    def explain(self, text, *, choice=0, ran=False):
        """The steps of a candidate for a query, its running plan and its cost; the counts, if it is run."""
        asked = self.asked_of(text)
        steps, running = self.candidate(asked, choice)
        counts = None
        if ran:
            counts = run(running, self.segments(asked.tables, self.version()))[1]
        return list(steps), running, cost(running, self.stats(asked.tables)), counts
