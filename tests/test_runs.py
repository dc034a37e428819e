"""What a run sees, and runs: their statements, footprints, changes and commits."""

import random
import unittest

from entablature.binder import bind
from entablature.database import Database
from entablature.errors import BadForm, NoSuch, Stale, TooMuch
from entablature.grammar import parse
from entablature.meaning import answer, value_of
from entablature.programs import check_program
from entablature.runs import Run, commit, is_stale, writes
from entablature.seen import Seen
from entablature.value import fault
from short import col, num, op, text

T = ("t", (("a", "int", False), ("b", "text", True), ("n", "int", False)), ((0,),))
U = ("u", (("x", "int", True), ("k", "text", False), ("f", "bool", False)), ((1,),))
FREE = ("free", (("a", "int", True),), ())
P0, P1 = ("param", 0), ("param", 1)
BIG = 10 ** 18 - 1


def database():
    told = Database()
    for schema in (T, U, FREE):
        told.create(schema)
    told.commit([("t", [], [(1, "a", 10), (2, None, 20)]), ("u", [], [(5, "x", True)]), ("free", [], [(1,), (1,), (None,)])])
    return told


def program(*statements, params=("int", "text")):
    return ("p", params, statements)


def run_of(told, *statements, values=(1, "x"), level="strict", snapshot=None):
    made = program(*statements)
    check_program(made, told)
    return Run(told, made, values, level, told.version() if snapshot is None else snapshot)


class Sight(unittest.TestCase):

    def test_seen(self):
        told = database()
        told.commit([("t", [(1, "a", 10)], [(3, "c", 30)])])
        seen = Seen(told, 1)
        self.assertIs(seen.database, told)
        self.assertEqual(seen.version, 1)
        self.assertEqual((seen.row("t", 1), seen.row("t", 3), seen.row("u", "x")), ((1, "a", 10), None, (5, "x", True)))
        self.assertEqual(sorted(seen.rows("t"), key=repr), [(1, "a", 10), (2, None, 20)])
        self.assertEqual(len(seen.rows("free")), 3)
        self.assertEqual(seen.changes(), ())
        seen.write("u", "y", (None, "y", False))
        seen.write("t", 7, (7, None, 1))
        seen.write("t", 1, None)
        seen.write("t", 2, (2, "z", 20))
        seen.write("t", 9, None)
        self.assertEqual((seen.row("t", 1), seen.row("t", 7), seen.row("t", 9)), (None, (7, None, 1), None))
        self.assertEqual(sorted(seen.rows("t"), key=repr), [(2, "z", 20), (7, None, 1)])
        self.assertEqual(seen.changes(), (("t", ((1, "a", 10), (2, None, 20)), ((2, "z", 20), (7, None, 1))),
                                          ("u", (), ((None, "y", False),))))
        seen.write("u", "y", None)
        seen.write("t", 1, (1, "a", 10))
        seen.write("t", 2, (2, None, 20))
        seen.write("t", 7, None)
        self.assertEqual(seen.changes(), ())
        seen.rows("t").clear()
        self.assertEqual(len(seen.rows("t")), 2)
        self.assertEqual(told.version(), 2)

    def test_versions_that_are_not_there(self):
        told = database()
        for version in (-1, 2, 99):
            with self.assertRaises(NoSuch):
                Seen(told, version)
        told.create(("late", (("a", "int", False),), ((0,),)))
        with self.assertRaises(NoSuch):
            Seen(told, 0).rows("late")
        with self.assertRaises(NoSuch):
            Seen(told, 0).row("late", 1)
        self.assertEqual(Seen(told, 1).rows("late"), [])


class Statements(unittest.TestCase):

    def test_fields(self):
        told = database()
        made = program(("read", "t", P0))
        one = Run(told, made, (1, "x"), "loose", 0)
        self.assertEqual((one.program, one.given, one.level, one.snapshot, one.told), (made, (1, "x"), "loose", 0, ()))
        self.assertIsInstance(one.seen, Seen)
        self.assertEqual(one.seen.version, 0)
        self.assertIs(one.is_over(), False)
        self.assertIsNone(one.step())
        self.assertEqual((one.told, one.is_over()), ((None,), True))
        with self.assertRaises(BadForm):
            one.step()
        self.assertEqual(one.finish(), (None,))

    def test_what_is_refused(self):
        told = database()
        made = program(("read", "t", P0))
        for values, level, snapshot, error in (((1,), "strict", 1, BadForm), ((1, None), "strict", 1, BadForm), ([1, "x"], "strict", 1, BadForm),
                                               ((1, "x"), "firm", 1, BadForm), ((1, "x"), None, 9, BadForm), (("x", 1), "firm", 9, BadForm),
                                               ((1, "x"), "loose", 2, NoSuch), ((1, "x"), "loose", -1, NoSuch)):
            with self.assertRaises(error):
                Run(told, made, values, level, snapshot)
        told.create(("late", (("a", "int", False),), ((0,),)))
        for statement in (("read", "late", P0), ("put", "late", (P0,)), ("ask", "SELECT a FROM late")):
            with self.assertRaises(NoSuch):
                Run(told, program(statement), (1, "x"), "loose", 0)
            self.assertEqual(len(Run(told, program(statement), (1, "x"), "loose", 1).finish()), 1)

    def test_read_and_ask_behind_own_writes(self):
        told = database()
        asks = ("ask", "SELECT a, n FROM t ORDER BY a DESC")
        one = run_of(told, ("read", "t", P0), asks, ("set", "t", P0, ((1, op("upper", col(6))), (2, op("add", col(4), col(7))))),
                     ("read", "t", P0), ("put", "t", (("value", 9), col(3), col(7))), ("drop", "t", ("value", 2)), asks,
                     ("ask", "SELECT count(*) FROM free"), ("read", "t", ("value", 2)), ("ask", "SELECT 1 / (n - 10) FROM t"))
        self.assertEqual(one.finish(), ((1, "a", 10), ((2, 20), (1, 10)), None, (1, "A", 20), None, None,
                                        ((9, 20), (1, 20)), ((3,),), None, ((0,), (0,))))
        one = run_of(told, ("set", "t", P0, ((2, num(0)),)), ("ask", "SELECT 1 / n FROM t"))
        self.assertEqual(one.finish(), (None, fault(1)))

    def test_what_a_run_knows(self):
        told = database()
        one = run_of(told, ("read", "t", P0), ("read", "u", ("value", "none")), ("read", "u", P1),
                     ("put", "t", (("value", 50), op("cat", col(1), col(3)), op("add", op("add", col(0), col(4)), col(8)))),
                     ("put", "u", (op("coalesce", col(5), num(-1)), ("value", "w"), op("isnull", col(6)))))
        self.assertEqual(one.finish(), ((1, "a", 10), None, (5, "x", True), None, None))
        self.assertEqual(one.changes(), (("t", (), ((50, "xa", 16),)), ("u", (), ((-1, "w", True),))))

    def test_set_changes_the_row_as_it_was(self):
        told = database()
        one = run_of(told, ("set", "t", P0, ((1, op("words", col(4))), (2, op("size", col(3))))), ("read", "t", P0),
                     ("set", "t", ("value", 77), ((2, num(1)),)), ("read", "t", ("value", 77)), ("drop", "t", ("value", 78)))
        self.assertEqual(one.finish(), (None, (1, "10", 1), None, None, None))
        self.assertEqual(one.changes(), (("t", ((1, "a", 10),), ((1, "10", 1),)),))

    def test_values_that_may_not_stand_in_a_column(self):
        told = database()
        bad = {"int": (op("div", num(1), num(0)), ("const", "int", None), op("add", num(BIG), num(1))),
               "text": (op("cat", text("x" * 200), text("y")),), "bool": (("const", "bool", None), op("eq", num(1), op("mod", num(1), num(0))))}
        for expr in bad["int"]:
            one = run_of(told, ("set", "t", P0, ((1, text("new")), (2, expr))), ("put", "t", (("value", 5), text("q"), expr)),
                         ("put", "u", (expr, ("value", "v"), ("const", "bool", True))), ("set", "u", P1, ((0, expr),)),
                         ("read", "t", P0), ("read", "t", ("value", 5)), ("read", "u", ("value", "v")), ("read", "u", P1))
            kept = None if expr == ("const", "int", None) else 5
            self.assertEqual(one.finish()[4:], ((1, "new", 10), (5, "q", 0), (None, "v", True), (kept, "x", True)))
        for expr in bad["text"] + (("const", "text", None),):
            one = run_of(told, ("set", "t", P0, ((1, expr),)), ("put", "t", (("value", 5), expr, num(1))), ("read", "t", P0),
                         ("read", "t", ("value", 5)))
            self.assertEqual(one.finish()[2:], ((1, "a" if expr[0] == "op" else None, 10), (5, None, 1)))
        for expr in bad["bool"]:
            one = run_of(told, ("set", "u", P1, ((2, expr),)), ("put", "u", (num(1), ("value", "v"), expr)), ("read", "u", P1),
                         ("read", "u", ("value", "v")))
            self.assertEqual(one.finish()[2:], ((5, "x", True), (1, "v", False)))
        firm = ("firm", (("a", "int", False), ("b", "text", False)), ((0,),))
        told.create(firm)
        one = run_of(told, ("put", "firm", (P0, bad["text"][0])), ("read", "firm", P0), ("set", "firm", P0, ((1, text("z")),)),
                     ("set", "firm", P0, ((1, bad["text"][0]),)), ("read", "firm", P0))
        self.assertEqual(one.finish(), (None, (1, ""), None, None, (1, "z")))

    def test_views_in_asks(self):
        told = database()
        told.view("v", "SELECT b, sum(n) AS s FROM t GROUP BY b")
        one = run_of(told, ("put", "t", (("value", 4), text("a"), num(BIG))), ("ask", "SELECT s FROM v WHERE b = 'a'"),
                     ("ask", "SELECT b FROM v ORDER BY b"), ("drop", "t", ("value", 4)), ("ask", "SELECT s FROM v WHERE b = 'a'"))
        self.assertEqual(one.finish(), (None, fault(4), (("a",), (None,)), None, ((10,),)))
        self.assertEqual(told.kept("v"), [("a", 10), (None, 20)])

    def test_any_settings_tell_the_same(self):
        told = database()
        statements = (("put", "t", (("value", 4), text("a"), num(7))), ("ask", "SELECT t.a, f FROM t LEFT JOIN u ON t.n = u.x + 5"),
                      ("ask", "SELECT b, count(*) FROM t GROUP BY b"), ("ask", "SELECT a FROM t WHERE n > 8 ORDER BY n DESC"))
        first = run_of(told, *statements).finish()
        for choice in range(6):
            one = run_of(told, *statements)
            for _ in statements:
                one.step(choice=choice, budget=4, batch=1, workers=3, turns=[2, 1, 5])
            self.assertEqual(one.told, first)

    def test_any_settings_tell_the_same_on_longer_tables(self):
        told = database()
        told.commit([("t", [], [(at, "a" if at % 3 else None, at % 17) for at in range(3, 90)]),
                     ("u", [], [(at % 11, "k%d" % at, at % 2 == 0) for at in range(80)])])
        told.view("v", "SELECT b, sum(n) AS s FROM t GROUP BY b")
        statements = (("put", "t", (("value", 900), text("a"), num(7))), ("ask", "SELECT t.a, f FROM t LEFT JOIN u ON t.n = u.x + 5 WHERE k LIKE '*1*'"),
                      ("ask", "SELECT k, count(*) FROM t, u WHERE n = x GROUP BY k"), ("drop", "u", ("value", "k3")), ("ask", "SELECT k FROM u, v WHERE x < s ORDER BY k DESC LIMIT 7"),
                      ("ask", "SELECT sum(1 / (n - x)) FROM t, u"), ("ask", "SELECT a FROM t WHERE EXISTS (SELECT 1 FROM u WHERE x = t.n AND f)"))
        first = run_of(told, *statements).finish()
        tables = {"t": (T, [row for row in told.store.rows("t", 2)] + [(900, "a", 7)]), "u": (U, told.store.rows("u", 2)), "free": (FREE, told.store.rows("free", 2))}
        for at, statement in enumerate(statements):
            if statement[0] == "drop":
                tables["u"] = (U, [row for row in tables["u"][1] if row[1] != "k3"])
            if statement[0] == "ask":
                due = answer(told.bound(statement[1])[0], tables)
                self.assertEqual(first[at], tuple(due) if isinstance(due, list) else due)
        self.assertEqual(first[5], fault(1))
        for choice in range(5):
            one = run_of(told, *statements)
            for _ in statements:
                one.step(choice=choice, budget=6, batch=3, workers=3, turns=[2, 1, 5])
            self.assertEqual(one.told, first)


class Commits(unittest.TestCase):

    def test_commit(self):
        told = database()
        told.view("v", "SELECT a FROM t WHERE n > 15")
        commits = []
        one = run_of(told, ("set", "t", P0, ((2, num(99)),)), ("put", "u", (num(1), P1, ("const", "bool", False))))
        with self.assertRaises(BadForm):
            commit(one, commits)
        one.step()
        with self.assertRaises(BadForm):
            commit(one, commits)
        one.finish()
        self.assertEqual(commit(one, commits), 2)
        self.assertEqual(commits, [(2, ((("r", "t", 1), ("w", "t", 1)), (("w", "u", "x"),)))])
        self.assertEqual(one.footprint(), commits[0][1])
        self.assertEqual(told.query("SELECT a, n FROM t ORDER BY a")[1], [(1, 99), (2, 20)])
        self.assertEqual(told.query("SELECT x, f FROM u")[1], [(1, False)])
        self.assertEqual(told.kept("v"), [(1,), (2,)])
        nothing = run_of(told, ("ask", "SELECT 1"))
        nothing.finish()
        self.assertEqual((nothing.changes(), commit(nothing, commits), told.version()), ((), 3, 3))

    def test_stale_runs(self):
        read, ask, write = ("read", "t", P0), ("ask", "SELECT n FROM t"), ("set", "t", P0, ((2, num(3)),))
        other = ("put", "u", (num(1), P1, ("const", "bool", False)))
        away = ("drop", "t", ("value", 55))
        for level, statements, is_bad in (
                ("strict", (read, other), True), ("loose", (read, other), False), ("strict", (ask,), True), ("loose", (ask, other), False),
                ("strict", (write,), True), ("loose", (write,), True), ("strict", (other,), False), ("loose", (other,), False),
                ("strict", (("read", "t", ("value", 2)), other), False), ("strict", (("ask", "SELECT a FROM free"), other), False),
                ("strict", (("ask", "SELECT n FROM t WHERE a = 2"),), True), ("strict", (away,), False), ("loose", (("drop", "t", P0),), True),
                ("strict", (write, read), True), ("loose", (("put", "t", (P0, text("z"), num(0))),), True)):
            told = database()
            commits = []
            late = run_of(told, *statements, level=level)
            early = run_of(told, write, level="loose")
            for one in (early, late):
                one.finish()
            commit(early, commits)
            before = (told.version(), told.query("SELECT * FROM t")[1], list(commits))
            self.assertIs(is_stale(level, late.snapshot, late.footprint(), commits), is_bad)
            if is_bad:
                with self.assertRaises(Stale):
                    commit(late, commits)
                self.assertEqual((told.version(), told.query("SELECT * FROM t")[1], commits), before)
            else:
                self.assertEqual(commit(late, commits), 3)

    def test_only_commits_behind_the_snapshot_count(self):
        told = database()
        commits = []
        for _ in range(3):
            one = run_of(told, ("set", "t", P0, ((2, op("add", col(4), num(1))),)), ("read", "t", P0))
            one.finish()
            commit(one, commits)
        self.assertEqual(told.query("SELECT n FROM t WHERE a = 1")[1], [(13,)])
        footprint = one.footprint()
        self.assertFalse(is_stale("strict", 4, footprint, commits))
        self.assertTrue(is_stale("strict", 3, footprint, commits))
        self.assertTrue(is_stale("loose", 3, footprint, commits))
        self.assertFalse(is_stale("loose", 0, footprint, []))

    def test_a_drop_of_nothing_and_a_set_of_nothing_are_writes(self):
        told = database()
        commits = []
        late = run_of(told, ("read", "t", ("value", 70)))
        late.finish()
        one = run_of(told, ("set", "t", ("value", 70), ((2, num(1)),)), ("drop", "t", ("value", 71)))
        one.finish()
        self.assertEqual(one.changes(), ())
        commit(one, commits)
        with self.assertRaises(Stale):
            commit(late, commits)

    def test_writes(self):
        told = database()
        one = run_of(told, ("set", "t", P0, ((2, num(1)),)), ("drop", "t", ("value", 1)), ("put", "u", (num(1), P1, ("const", "bool", True))),
                     ("read", "t", ("value", 3)), ("ask", "SELECT a FROM free"))
        self.assertEqual(sorted(writes(one.footprint())), [("t", 1), ("u", "x")])
        self.assertIs(type(writes(one.footprint())), tuple)
        self.assertEqual(writes(((), (("r", "t", 1),))), ())

    def test_too_many_rows(self):
        told = database()
        told.commit([("t", [], [(at, None, 0) for at in range(3, 2001)])])
        commits = []
        one = run_of(told, ("put", "t", (("value", -1), text("a"), num(1))), level="loose")
        one.finish()
        with self.assertRaises(TooMuch):
            commit(one, commits)
        self.assertEqual((told.version(), commits), (2, []))
        two = run_of(told, ("put", "t", (("value", -1), text("a"), num(1))), ("drop", "t", ("value", 1)))
        two.finish()
        self.assertEqual(commit(two, commits), 3)

    def test_stale_goes_ahead_of_too_much(self):
        told = database()
        told.commit([("t", [], [(at, None, 0) for at in range(3, 2001)])])
        commits = []
        late = run_of(told, ("put", "t", (("value", -1), text("a"), num(1))), ("read", "u", P1))
        late.finish()
        one = run_of(told, ("drop", "u", P1))
        one.finish()
        commit(one, commits)
        with self.assertRaises(Stale):
            commit(late, commits)


class Drawn(unittest.TestCase):
    """Runs side by side, held against tables as plain dicts."""

    def setUp(self):
        self.rnd = random.Random(3)

    def key(self, table):
        if table == "t":
            return self.rnd.choice((P0, ("value", 1), ("value", 2), ("value", 3)))
        return self.rnd.choice((P1, ("value", "x"), ("value", "y")))

    def expr(self, kind, row):
        places = [col(at) for at, told in enumerate(row) if told == kind]
        if places and self.rnd.random() < 0.6:
            return self.rnd.choice(places)
        if kind == "int":
            return self.rnd.choice((num(4), num(None), op("add", num(BIG), self.expr("int", row)), op("div", num(6), self.expr("int", row))))
        if kind == "text":
            return self.rnd.choice((text("q"), text(None), op("cat", self.expr("text", row), text("-"))))
        return self.rnd.choice((("const", "bool", None), op("lt", self.expr("int", row), num(3))))

    def program(self):
        known = ["int", "text"]
        statements = []
        for _ in range(self.rnd.randrange(1, 6)):
            schema = self.rnd.choice((T, U))
            kinds = [column[1] for column in schema[1]]
            place = schema[2][0][0]
            word = self.rnd.choice(("read", "set", "put", "drop", "ask"))
            key = self.key(schema[0])
            if word == "set":
                at = self.rnd.choice([at for at in range(3) if at != place])
                statements.append((word, schema[0], key, ((at, self.expr(kinds[at], known + kinds)),)))
            elif word == "put":
                statements.append((word, schema[0], tuple([key if at == place else self.expr(kind, known) for at, kind in enumerate(kinds)])))
            elif word == "ask":
                statements.append((word, self.rnd.choice(("SELECT * FROM t", "SELECT count(*), sum(x) FROM u", "SELECT a, f FROM t, u WHERE n = x",
                                                          "SELECT 1 / n FROM t", "SELECT k FROM u ORDER BY x DESC"))))
            else:
                statements.append((word, schema[0], key))
                if word == "read":
                    known = known + kinds
        return program(*statements)

    def plain(self, told, made, values, tables):
        """What a run tells on plain tables, and the tables behind it."""
        tables = {name: dict(rows) for name, rows in tables.items()}
        known = tuple(values)
        found = []
        for statement in made[2]:
            result = None
            if statement[0] == "ask":
                plan, _ = bind(parse(statement[1]), told.schemas())
                result = answer(plan, {name: (told.schema(name), list(rows.values())) for name, rows in tables.items()})
                result = tuple(result) if isinstance(result, list) else result
            else:
                schema = told.schema(statement[1])
                place = schema[2][0][0]
                key = statement[2][place] if statement[0] == "put" else statement[2]
                key = values[key[1]] if key[0] == "param" else key[1]
                rows = tables[statement[1]]
                row = rows.get(key)
                if statement[0] == "read":
                    result = row
                    known += row or (None,) * 3
                if statement[0] == "drop":
                    rows.pop(key, None)
                if statement[0] == "set" and row is not None:
                    new = list(row)
                    for at, expr in statement[3]:
                        x = value_of(expr, known + row, [], {})
                        if not isinstance(x, tuple) and (x is not None or schema[1][at][2]):
                            new[at] = x
                    rows[key] = tuple(new)
                if statement[0] == "put":
                    new = []
                    for at, (_, kind, nullable) in enumerate(schema[1]):
                        x = key if at == place else value_of(statement[2][at], known, [], {})
                        if isinstance(x, tuple) or (x is None and not nullable):
                            x = None if nullable else {"int": 0, "text": "", "bool": False}[kind]
                        new.append(x)
                    rows[key] = tuple(new)
            found.append(result)
        return tuple(found), tables

    def state(self, told, version):
        return {schema[0]: {row[schema[2][0][0]]: row for row in told.store.rows(schema[0], version)} for schema in (T, U)}

    def test_runs_side_by_side(self):
        stale = 0
        for _ in range(60):
            told = database()
            commits = []
            under = []
            for _ in range(25):
                if len(under) < 3 and self.rnd.random() < 0.6:
                    made = self.program()
                    check_program(made, told)
                    values = (self.rnd.choice((1, 2, 3, 4)), self.rnd.choice(("x", "y", "z")))
                    under.append(Run(told, made, values, self.rnd.choice(("loose", "strict")), told.version()))
                elif under:
                    one = under[self.rnd.randrange(len(under))]
                    if not one.is_over():
                        one.step(choice=self.rnd.randrange(4), budget=4, batch=2, workers=2, turns=[1, 0])
                        continue
                    under.remove(one)
                    found, behind = self.plain(told, one.program, one.given, self.state(told, one.snapshot))
                    self.assertEqual(repr(one.told), repr(found))
                    before = self.state(told, told.version())
                    bad = is_stale(one.level, one.snapshot, one.footprint(), commits)
                    if bad:
                        stale += 1
                        with self.assertRaises(Stale):
                            commit(one, commits)
                        self.assertEqual(self.state(told, told.version()), before)
                        continue
                    version = commit(one, commits)
                    self.assertEqual((version, commits[-1]), (told.version(), (version, one.footprint())))
                    for name, value in writes(one.footprint()):
                        before[name].pop(value, None)
                        if value in behind[name]:
                            before[name][value] = behind[name][value]
                    self.assertEqual(self.state(told, version), before)
                    if one.level == "strict":
                        again, _ = self.plain(told, one.program, one.given, self.state(told, version - 1))
                        self.assertEqual(repr(again), repr(one.told))
        self.assertGreater(stale, 50)


if __name__ == "__main__":
    unittest.main()
