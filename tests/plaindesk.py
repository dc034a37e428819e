"""Desks and runs read a second time: plain tables version by version, and drawn programs and deeds."""

from entablature.binder import bind
from entablature.desk import Desk
from entablature.errors import BadForm, Stale, TooMuch
from entablature.grammar import parse
from entablature.meaning import answer, value_of
from short import col, num, op, text

T = ("t", (("a", "int", False), ("b", "text", True), ("n", "int", False)), ((0,),))
U = ("u", (("x", "int", True), ("k", "text", False), ("f", "bool", False)), ((1,),))
FREE = ("free", (("a", "int", True),), ())
FORMS = {form[0]: form for form in (T, U, FREE)}
VIEWS = {"v": "SELECT b, sum(n) AS s FROM t GROUP BY b", "w": "SELECT a, f FROM t, u WHERE n = x"}
KEYS = {"t": (1, 2, 3, 4), "u": ("x", "y", "z")}
BIG = 10 ** 18 - 1
ASKS = ("SELECT * FROM t", "SELECT count(*), sum(x) FROM u", "SELECT a, f FROM t, u WHERE n = x", "SELECT 1 / n FROM t", "SELECT k FROM u ORDER BY x DESC",
        "SELECT * FROM v", "SELECT count(*) FROM w", "SELECT a FROM free", "SELECT b FROM v WHERE s > 5 ORDER BY b")


def key(rnd, table, params):
    kind = "int" if table == "t" else "text"
    fit = [("param", i) for i, told in enumerate(params) if told == kind]
    return rnd.choice(fit if fit and rnd.random() < 0.7 else [("value", x) for x in KEYS[table][:2]])


def expr(rnd, kind, row, deep=3):
    places = [col(at) for at, told in enumerate(row) if told == kind]
    if places and rnd.random() < 0.6:
        return rnd.choice(places)
    if kind == "int":
        if deep == 0 or rnd.random() < 0.5:
            return num(rnd.choice((4, 10, None)))
        name, first = rnd.choice((("add", BIG), ("div", 6)))
        return op(name, num(first), expr(rnd, "int", row, deep - 1))
    if kind == "text":
        if deep == 0 or rnd.random() < 0.6:
            return text(rnd.choice(("q", None)))
        return op("cat", expr(rnd, "text", row, deep - 1), text("-"))
    return rnd.choice((("const", "bool", None), op("lt", expr(rnd, "int", row), num(3))))


def program(rnd, name, most=4, asks=ASKS):
    """A drawn program."""
    params = tuple([rnd.choice(("int", "text")) for _ in range(rnd.randrange(1, 4))])
    known = list(params)
    statements = []
    for _ in range(rnd.randrange(1, most + 1)):
        form = rnd.choice((T, T, U))
        kinds = [column[1] for column in form[1]]
        place = form[2][0][0]
        word = rnd.choice(("read", "read", "set", "put", "drop", "ask"))
        where = key(rnd, form[0], params)
        if word == "set":
            at = rnd.choice([at for at in range(3) if at != place])
            statements.append((word, form[0], where, ((at, expr(rnd, kinds[at], known + kinds)),)))
        elif word == "put":
            statements.append((word, form[0], tuple([where if at == place else expr(rnd, kind, known) for at, kind in enumerate(kinds)])))
        elif word == "ask":
            statements.append((word, rnd.choice(asks)))
        else:
            statements.append((word, form[0], where))
            if word == "read":
                known = known + kinds
    return (name, params, tuple(statements))


def values(rnd, params):
    return tuple([rnd.choice(KEYS["t" if kind == "int" else "u"]) for kind in params])


def bound(words):
    """The plan of a query, the views as queries of WITH."""
    front = ", ".join(["%s AS (%s)" % pair for pair in VIEWS.items() if pair[0] in words.replace("(", " ").split()])
    return bind(parse("WITH %s %s" % (front, words) if front else words), tuple(FORMS.values()))[0]


def asked(words, tables):
    told = answer(bound(words), {name: (form, list(tables[name].values())) for name, form in FORMS.items()})
    return tuple(told) if isinstance(told, list) else told


def plain(made, given, tables):
    """What a run tells on plain tables, the tables behind it, and its writes."""
    tables = {name: dict(rows) for name, rows in tables.items()}
    known = tuple(given)
    found = []
    writes = []
    for statement in made[2]:
        if statement[0] == "ask":
            found.append(asked(statement[1], tables))
            continue
        name = statement[1]
        form = FORMS[name]
        place = form[2][0][0]
        spot = statement[2][place] if statement[0] == "put" else statement[2]
        spot = given[spot[1]] if spot[0] == "param" else spot[1]
        row = tables[name].get(spot)
        found.append(row if statement[0] == "read" else None)
        if statement[0] == "read":
            known += row or (None,) * 3
            continue
        new = None
        if statement[0] == "set":
            if row is None:
                continue
            new = list(row)
            for at, told in statement[3]:
                x = value_of(told, known + row, [], {})
                if not isinstance(x, tuple) and (x is not None or form[1][at][2]):
                    new[at] = x
        if statement[0] == "put":
            new = []
            for at, (_, kind, nullable) in enumerate(form[1]):
                x = spot if at == place else value_of(statement[2][at], known, [], {})
                if isinstance(x, tuple) or (x is None and not nullable):
                    x = None if nullable else {"int": 0, "text": "", "bool": False}[kind]
                new.append(x)
        writes.append((name, spot, None if new is None else tuple(new)))
        tables[name].pop(spot, None)
        if new is not None:
            tables[name][spot] = tuple(new)
    return tuple(found), tables, tuple(writes)


def footprint(made, given):
    """The entries of a run, as (word, table, value); an ask for each table."""
    found = []
    for statement in made[2]:
        if statement[0] == "ask":
            words = statement[1].replace(",", " ").split()
            names = {name for name in FORMS if name in words}
            for view, words in (("v", ("t",)), ("w", ("t", "u"))):
                if view in statement[1].split():
                    names.update(words)
            found.extend([("a", name) for name in sorted(names)])
            continue
        spot = statement[2][FORMS[statement[1]][2][0][0]] if statement[0] == "put" else statement[2]
        spot = given[spot[1]] if spot[0] == "param" else spot[1]
        words = {"read": "r", "set": "rw", "put": "w", "drop": "w"}[statement[0]]
        found.extend([(word, statement[1], spot) for word in words])
    return found


class Model:
    """A desk with plain tables for each version from the first one on."""

    def __init__(self, version, tables):
        self.first = version
        self.versions = {version: tables}
        self.last = version
        self.programs = {}
        self.levels = {}
        self.floor = version
        self.written = []
        self.history = []

    def stale(self, name, given, snapshot):
        """Whether a run would be stale."""
        if snapshot < self.floor:
            return True
        for entry in footprint(self.programs[name], given):
            for version, spots in self.written:
                if version > snapshot and (entry[0] == "w" or self.levels[name] == "strict"):
                    if entry[1:] in spots or (entry[0] == "a" and entry[1] in [spot[0] for spot in spots]):
                        return True
        return False

    def commit(self, name, given, snapshot):
        """Commits a run of the whole program from a snapshot; tells the version, or the refusal."""
        if self.stale(name, given, snapshot):
            return Stale
        made = self.programs[name]
        found, behind, _ = plain(made, given, self.versions[snapshot])
        tables = {table: dict(rows) for table, rows in self.versions[self.last].items()}
        spots = {entry[1:] for entry in footprint(made, given) if entry[0] == "w"}
        for table, spot in spots:
            tables[table].pop(spot, None)
            if spot in behind[table]:
                tables[table][spot] = behind[table][spot]
        if any([len(rows) > 2000 for rows in tables.values()]):
            return TooMuch
        self.last += 1
        self.versions[self.last] = tables
        self.written.append((self.last, spots))
        self.history.append((name, given, self.levels[name], snapshot, self.last, found))
        return self.last


def state(desk, version):
    """The plain tables of a version of a desk."""
    told = {}
    for name, form in FORMS.items():
        rows = desk.database.store.rows(name, version)
        place = {"t": 0, "u": 1}.get(name)
        told[name] = {at if place is None else row[place]: row for at, row in enumerate(sorted(rows, key=repr) if place is None else rows)}
    return told


def filled(rnd=None):
    """A desk with tables, views and rows, and no program."""
    desk = Desk()
    for form in FORMS.values():
        desk.create(form)
    rows = [(1, "a", 10), (2, None, 20)] if rnd is None else [(at, rnd.choice(("a", "b", None)), rnd.randrange(4)) for at in KEYS["t"] if rnd.random() < 0.7]
    others = [(5, "x", True)] if rnd is None else [(rnd.choice((0, 1, 2, None)), at, rnd.random() < 0.5) for at in KEYS["u"] if rnd.random() < 0.6]
    desk.fill([("t", [], rows), ("u", [], others), ("free", [], [(1,), (1,), (None,)])])
    for name, words in VIEWS.items():
        desk.view(name, words)
    return desk


class Pair:
    """A desk and its model, which do the same deeds."""

    def __init__(self, rnd, programs=3, asks=ASKS, most=4, levels=("loose", "strict")):
        self.rnd = rnd
        self.levels = levels
        self.desk = filled(rnd)
        self.model = Model(self.desk.version(), state(self.desk, self.desk.version()))
        self.under = {}
        self.refused = 0
        for at in range(rnd.randrange(1, programs + 1)):
            self.add(program(rnd, "p%d" % at, most, asks))

    def add(self, made):
        self.desk.add(made)
        if not self.model.programs:
            self.model.first = self.desk.version()
        self.model.programs[made[0]] = made
        self.model.levels[made[0]] = "strict"
        self.model.floor = self.desk.version()

    def allot(self):
        told = tuple([self.rnd.choice(self.levels) for _ in self.model.programs])
        self.desk.allot(told)
        self.model.levels = dict(zip(self.model.programs, told))

    def begin(self):
        name = self.rnd.choice(list(self.model.programs))
        given = values(self.rnd, self.model.programs[name][1])
        snapshot = self.rnd.randrange(self.model.floor, self.model.last + 1) if self.rnd.random() < 0.4 else None
        number = self.desk.begin(name, given, snapshot=snapshot)
        self.under[number] = (name, given, self.model.last if snapshot is None else snapshot)

    def commit(self, test, number):
        name, given, snapshot = self.under[number]
        found, _, _ = plain(self.model.programs[name], given, self.model.versions[snapshot])
        run = self.desk.runs[number]
        if not run.is_over():
            with test.assertRaises(BadForm):
                self.desk.commit(number)
            at = len(run.told)
            told = self.desk.step(number, choice=self.rnd.randrange(4), budget=4, batch=2, workers=2, turns=[1, 0])
            test.assertEqual(repr(told), repr(found[at]))
            return
        del self.under[number]
        due = self.model.commit(name, given, snapshot)
        if isinstance(due, int):
            test.assertEqual(self.desk.commit(number), due)
        else:
            self.refused += 1
            with test.assertRaises(due):
                self.desk.commit(number)
        test.assertNotIn(number, self.desk.runs)

    def deed(self, test):
        """Does something that is drawn."""
        way = self.rnd.random()
        if way < 0.04:
            self.allot()
        elif way < 0.06 and len(self.model.programs) < 4:
            self.add(program(self.rnd, "p%d" % len(self.model.programs)))
        elif way < 0.09 and self.under:
            number = self.rnd.choice(list(self.under))
            self.desk.leave(number)
            del self.under[number]
        elif way < 0.35 and len(self.under) < 4:
            self.begin()
        elif self.under:
            self.commit(test, self.rnd.choice(list(self.under)))

    def hold(self, test):
        """Holds all that the desk tells against the model."""
        desk, model = self.desk, self.model
        test.assertEqual((desk.version(), desk.first()), (model.last, model.first))
        test.assertEqual(repr(desk.history()), repr(tuple(model.history)))
        test.assertEqual(repr(state(desk, model.last)), repr(sorted_tables(model.versions[model.last], desk)))
        test.assertEqual(desk.allotment(), tuple([model.levels[name] for name in model.programs]))
        test.assertEqual(sorted(desk.runs), sorted(self.under))


def sorted_tables(tables, desk):
    """The tables with their rows in the order in which a desk tells them."""
    return {name: {spot: tables[name][spot] for spot in rows} if set(rows) == set(tables[name]) else tables[name]
            for name, rows in state(desk, desk.version()).items()}
