"""Databases: queries at each version, views, and what is refused."""

import random
import time
import unittest

import generated
from entablature.binder import bind
from entablature.checker import takes_all
from entablature.database import Database
from entablature.errors import BadForm, BadKey, BadKind, BadName, BadText, NoSuch, PeristyleError, TooMuch
from entablature.estimate import cost
from entablature.grammar import parse
from entablature.meaning import answer, bag
from entablature.running import plan_of
from entablature.store import Store
from entablature.value import fault, sorted_rows

T = ("t", (("a", "int", False), ("b", "text", True), ("c", "int", True)), ((0,),))
U = ("u", (("a", "int", True), ("d", "int", True)), ())
W = ("w", (("a", "int", False), ("b", "int", False), ("c", "int", False)), ((0, 1), (2,)))


def database(*schemas):
    told = Database()
    for schema in schemas or (T, U):
        told.create(schema)
    return told


def meant(told, text, version):
    """The answer of a query without views by what its plan means."""
    tables = {}
    for schema in told.schemas():
        try:
            tables[schema[0]] = (schema, told.store.rows(schema[0], version))
        except NoSuch:
            pass
    plan, names = bind(parse(text), told.schemas())
    return names, answer(plan, tables)


class Queries(unittest.TestCase):

    def test_queries_at_versions(self):
        told = database()
        told.commit([("t", [], [(1, "x", 5), (2, "y", None)]), ("u", [], [(1, 1), (1, 1), (2, None)])])
        told.commit([("t", [(1, "x", 5)], [(1, "z", 6)])])
        text = "SELECT a, b FROM t ORDER BY a DESC"
        self.assertEqual(told.query(text), (("a", "b"), [(2, "y"), (1, "z")]))
        self.assertEqual(told.query(text, version=1), (("a", "b"), [(2, "y"), (1, "x")]))
        self.assertEqual(told.query(text, version=0), (("a", "b"), []))
        self.assertEqual(told.query("SELECT count(*) AS n, sum(u.a) FROM t, u WHERE t.a = u.a"), (("n", "c2"), [(3, 4)]))
        self.assertEqual(told.query("SELECT 1 / (c - 6) FROM t")[1], fault(1))
        self.assertEqual(told.version(), 2)
        self.assertIsInstance(told.store, Store)

    def test_versions_that_are_not_there(self):
        told = database(T)
        told.commit([])
        told.create(U)
        told.commit([])
        for version in (-1, 3, 100):
            with self.assertRaises(NoSuch):
                told.query("SELECT 1", version=version)
        self.assertEqual(told.query("SELECT 1", version=0)[1], [(1,)])
        for text in ("SELECT a FROM u", "SELECT EXISTS (SELECT 1 FROM u) FROM t", "SELECT a FROM t WHERE a IN (SELECT d FROM u)"):
            self.assertEqual(type(told.query(text, version=1)[1]), list)
            with self.assertRaises(NoSuch):
                told.query(text, version=0)
        with self.assertRaises(BadName):
            told.query("SELECT a FROM nothing", version=77)
        with self.assertRaises(BadText):
            told.query("SELECT", version=77)

    def test_any_candidate_and_settings_tell_the_same(self):
        told = Database()
        for schema in generated.SCHEMAS:
            told.create(schema)
        for seed in range(4):
            tables = generated.tables(seed)
            gone = [(name, told.store.rows(name, told.version()), []) for name in tables]
            told.commit(gone + [(name, [], rows) for name, (_, rows) in tables.items()])
        done = 0
        for seed in range(500):
            text = generated.query(seed)
            rnd = random.Random(seed)
            version = rnd.randrange(5)
            try:
                names, first = told.query(text, version=version)
            except PeristyleError:
                with self.assertRaises(PeristyleError):
                    bind(parse(text), told.schemas())
                continue
            done += 1
            self.assertEqual((names, first), meant(told, text, version))
            for choice in (0, 1, 2, 3, 5, -1, 77):
                again = told.query(text, version=version, choice=choice, budget=rnd.choice((4, 7, 100)),
                                   batch=rnd.choice((1, 3, 50)), workers=rnd.choice((1, 2, 4)), turns=[3, 1, choice])
                self.assertEqual(again, (names, first), (seed, choice))
        self.assertGreater(done, 300)

    def test_answers_stay_behind_each_deed(self):
        told = database()
        rnd = random.Random(5)
        texts = ("SELECT * FROM t", "SELECT b, count(*), min(c) FROM t GROUP BY b", "SELECT t.a, d FROM t LEFT JOIN u ON t.a = u.a",
                 "SELECT DISTINCT d FROM u ORDER BY d DESC", "SELECT a FROM t WHERE c > 3 EXCEPT SELECT d FROM u")
        known = {}
        rows = {}
        for step in range(60):
            roll = rnd.randrange(7)
            if roll < 3:
                gone = [row for row in rows.values() if rnd.random() < 0.3]
                for row in gone:
                    del rows[row[0]]
                new = [(at, rnd.choice((None, "x", "y")), rnd.choice((None, 1, 5))) for at in
                       {rnd.randrange(40) for _ in range(4)} if at not in rows]
                rows.update({row[0]: row for row in new})
                told.commit([("t", gone, new), ("u", [], [(rnd.randrange(9), rnd.choice((None, 1, 2)))])])
            elif roll == 3:
                told.pack(rnd.choice(("t", "u")), rnd.randrange(5))
            elif roll == 4:
                told.settle(rnd.choice(("t", "u")), rnd.choice((1, 2, 7, 256)))
            elif roll == 5:
                told.create((f"x{step}", (("a", "int", False),), ()))
                told.drop(f"x{step}")
            elif "seen" in told.views():
                told.drop_view("seen")
            else:
                told.view("seen", "SELECT b, count(*) AS n FROM t GROUP BY b")
            for text in texts:
                for version in range(told.version() + 1):
                    found = told.query(text, version=version)
                    self.assertEqual(known.setdefault((text, version), found), found)
        self.assertGreater(told.version(), 15)

    def test_what_is_told_is_new(self):
        told = database()
        told.commit([("u", [], [(1, 1)])])
        told.query("SELECT * FROM u")[1].clear()
        told.explain("SELECT * FROM u WHERE TRUE AND a = 1")[0].clear()
        rows = [[2, 2]]
        told.commit([["u", [], rows]])
        rows[0][0] = 9
        self.assertEqual(told.query("SELECT * FROM u")[1], [(1, 1), (2, 2)])
        self.assertGreater(len(told.explain("SELECT a FROM u WHERE TRUE AND a = 1")[0]), 0)

    def test_bound(self):
        told = database()
        self.assertEqual(told.bound("SELECT a FROM u"), (("select", (("col", 0),), ("scan", "u")), ("a",)))
        for text, error in (("SELECT x FROM u", BadName), ("SELECT 1 + 'a'", BadKind), ("SELECT ,", BadText),
                            ("SELECT 1" + " " * 3000, TooMuch)):
            with self.assertRaises(error):
                told.bound(text)
            with self.assertRaises(error):
                told.query(text)
            with self.assertRaises(error):
                told.explain(text)

    def test_explain(self):
        told = database()
        told.commit([("t", [], [(at, str(at), at // 2) for at in range(300)]),
                     ("u", [], [(at, None if at < 10 else at % 7) for at in range(200)])])
        text = "SELECT t.a, d FROM t, u WHERE t.a = u.a AND t.c < 20"
        stats = {"t": (300, (300, 300, 150)), "u": (200, (200, 7))}
        costs = []
        for choice in range(9):
            steps, running, worth, counts = told.explain(text, choice=choice)
            plan, _ = told.bound(text)
            self.assertIs(type(steps), list)
            self.assertTrue(takes_all(plan, steps, told.schemas()))
            self.assertEqual(plan_of(running), steps[-1][2] if steps else plan)
            self.assertEqual(worth, cost(running, stats))
            self.assertIsNone(counts)
            costs.append(worth)
            steps, _, _, counts = told.explain(text, choice=choice, ran=True)
            segments = len(told.store.segments("t", 1)) + len(told.store.segments("u", 1))
            self.assertEqual(sum(counts[:2]) % segments if choice else 0, 0)
            self.assertEqual(len(counts), 5)
        self.assertEqual(costs[0], min(costs))
        self.assertLess(costs[0], max(costs))
        told.commit([("u", [(at, at % 7) for at in range(100, 200)], [])])
        self.assertEqual(told.explain("SELECT a FROM u")[2], cost(told.explain("SELECT a FROM u")[1], {"u": (100, (100, 7))}))


class Views(unittest.TestCase):

    def test_views_in_queries(self):
        told = database()
        told.view("v", "SELECT a AS k, c FROM t WHERE c > 1")
        told.commit([("t", [], [(1, "x", 5), (2, "y", 1), (3, None, 7)])])
        self.assertEqual(told.query("SELECT * FROM v"), (("k", "c"), [(1, 5), (3, 7)]))
        self.assertEqual(told.query("SELECT v.k FROM v JOIN t ON v.k = t.a WHERE t.b IS NULL")[1], [(3,)])
        self.assertEqual(told.query("SELECT k FROM v", version=0)[1], [])
        self.assertEqual(told.query("SELECT (SELECT max(z.k) FROM v AS z) FROM t WHERE a = 1")[1], [(3,)])
        self.assertEqual(told.query("WITH v AS (SELECT 8 AS k) SELECT k FROM v")[1], [(8,)])
        self.assertEqual(told.query("SELECT (WITH v AS (SELECT 8 AS k) SELECT k FROM v) FROM v WHERE k = 1")[1], [(8,)])
        self.assertEqual(told.bound("SELECT k FROM v")[0][2], told.bound("SELECT a AS k, c FROM t WHERE c > 1")[0])
        self.assertEqual(told.views(), ("v",))

    def test_what_is_refused(self):
        told = database()
        told.view("v", "SELECT a FROM t")
        for name in ("t", "v", "V", "", "select", "a b", "x" * 21, "1a"):
            with self.assertRaises(BadName) as why:
                told.view(name, "SELECT a FROM t")
            self.assertEqual(why.exception.at, -1)
        for text, error in (("SELECT a FROM v", BadName), ("SELECT a FROM t ORDER BY a", BadKind), ("SELECT 1 / a FROM t", BadKind),
                            ("SELECT a FROM t LEFT JOIN u ON TRUE", BadName), ("SELECT t.a FROM t LEFT JOIN u ON TRUE", BadKind),
                            ("SELECT", BadText), ("SELECT a FROM t WHERE EXISTS (SELECT 1 FROM u)", BadKind)):
            with self.assertRaises(error):
                told.view("x", text)
        self.assertEqual(told.views(), ("v",))
        with self.assertRaises(BadKind) as why:
            told.view("x", "SELECT 1 / a FROM t")
        self.assertEqual(why.exception.at, -1)
        with self.assertRaises(BadName) as why:
            told.create(("v", (("a", "int", True),), ()))
        self.assertEqual(why.exception.at, -1)
        with self.assertRaises(BadForm):
            told.create(("v", (), ()))
        with self.assertRaises(BadKey):
            told.drop("t")
        with self.assertRaises(NoSuch):
            told.drop("v")
        told.drop("u")
        for action in (told.drop_view, told.kept):
            with self.assertRaises(NoSuch):
                action("t")
        told.drop_view("v")
        told.drop("t")
        self.assertEqual((told.views(), told.schemas()), ((), ()))

    def test_ten_views(self):
        told = database()
        for at in range(10):
            told.view(f"v{at}", "SELECT a FROM t")
        with self.assertRaises(TooMuch):
            told.view("more", "SELECT ,")
        with self.assertRaises(BadName):
            told.view("v3", "SELECT ,")
        told.drop_view("v3")
        told.view("more", "SELECT a FROM u")
        self.assertEqual(told.views(), tuple([f"v{at}" for at in range(10) if at != 3]) + ("more",))

    def test_twenty_tables_and_a_name_of_a_view(self):
        told = database()
        told.view("v", "SELECT a FROM t")
        for at in range(18):
            told.create((f"x{at}", (("a", "int", True),), ()))
        with self.assertRaises(BadName):
            told.create(("v", (("a", "int", True),), ()))
        with self.assertRaises(TooMuch):
            told.create(("y", (("a", "int", True),), ()))

    def test_a_view_means_what_it_meant(self):
        told = database()
        told.view("v", "SELECT a FROM t")
        told.drop_view("v")
        with self.assertRaises(BadName):
            told.query("SELECT a FROM v")
        told.view("v", "SELECT c AS a FROM t")
        told.commit([("t", [], [(1, "x", 5)])])
        self.assertEqual(told.query("SELECT a FROM v")[1], [(5,)])
        told.drop_view("v")
        told.create(("v", (("a", "int", True),), ()))
        self.assertEqual(told.query("SELECT a FROM v")[1], [])

    def test_kept_rows_follow_each_commit(self):
        told = database()
        told.commit([("t", [], [(1, "x", 5)])])
        texts = {"one": "SELECT b, sum(c) AS s, count(*) AS n FROM t GROUP BY b", "two": "SELECT t.a, u.d FROM t, u WHERE t.a = u.a",
                 "three": "SELECT DISTINCT d FROM u", "four": "SELECT a FROM t UNION ALL SELECT d FROM u",
                 "five": "SELECT a FROM t EXCEPT SELECT a FROM u", "six": "SELECT sum(d) AS s FROM u"}
        for name, text in texts.items():
            told.view(name, text)
        rnd = random.Random(1)
        rows = {1: (1, "x", 5)}
        for _ in range(60):
            gone = [row for row in rows.values() if rnd.random() < 0.3]
            new = [(row[0], row[1], rnd.choice((None, 1, 2))) for row in gone if rnd.random() < 0.7]
            new += [(at, rnd.choice((None, "x", "y")), 3) for at in {rnd.randrange(30) for _ in range(2)} if at not in rows]
            for row in gone:
                del rows[row[0]]
            rows.update({row[0]: row for row in new})
            others = told.store.rows("u", told.version())
            told.commit([("t", gone, []), ("u", others[:1], [(rnd.randrange(30), rnd.choice((None, 10 ** 18 - 1, -5)))]),
                         ("t", [], new), ("u", [], [(1, 1)]), ("u", [(1, 1)], [])])
            for name, text in texts.items():
                plan, _ = told.bound(text)
                tables = {schema[0]: (schema, told.store.rows(schema[0], told.version())) for schema in told.schemas()}
                self.assertEqual(told.kept(name), sorted_rows(bag(plan, [], tables)))
        told.kept("one").clear()
        self.assertGreater(len(told.kept("one")), 0)

    def test_a_commit_that_is_refused_changes_no_view(self):
        told = database()
        told.view("v", "SELECT a FROM t")
        told.commit([("t", [], [(1, "x", 5)])])
        for changes, error in (([("t", [], [(2, "x", 5)]), ("zz", [], [])], NoSuch), ([("t", [], [(1, "y", 5)])], BadKey),
                               ([("t", [], [(2, 3, 5)])], BadForm), ([("t", [(9, "x", 5)], [])], NoSuch)):
            with self.assertRaises(error):
                told.commit(changes)
        self.assertEqual((told.kept("v"), told.version()), ([(1,)], 1))


class Commits(unittest.TestCase):

    def test_keys_across_and_within_commits(self):
        told = database(T, W)
        told.commit([("w", [], [(1, 1, 1), (1, 2, 2)])])
        for new in ([(1, 1, 9)], [(5, 5, 2)], [(7, 7, 7), (7, 7, 8)], [(7, 7, 7), (8, 8, 7)]):
            with self.assertRaises(BadKey):
                told.commit([("w", [], new)])
        with self.assertRaises(BadKey):
            told.commit([("w", [(1, 1, 1)], [(1, 1, 2)])])
        told.commit([("w", [(1, 1, 1), (1, 2, 2)], [(1, 1, 2), (1, 2, 1)])])
        with self.assertRaises(BadKey):
            told.commit([("w", [], [(3, 3, 3)]), ("t", [], [(1, None, None), (1, None, 1)])])
        self.assertEqual(told.version(), 2)

    def test_two_thousand_rows(self):
        told = database(T, U)
        rows = [(at, None, None) for at in range(2000)]
        told.commit([("t", [], rows)])
        with self.assertRaises(TooMuch):
            told.commit([("t", [], [(2000, None, None)])])
        told.commit([("t", [], [(2000, "a", None)]), ("t", rows[:1], [])])
        with self.assertRaises(TooMuch):
            told.commit([("u", [], [(1, 1)] * 2001)])
        told.commit([("u", [], [(1, 1)] * 2001), ("u", [(1, 1)], [])])
        self.assertEqual(told.query("SELECT count(*), count(b) FROM t")[1], [(2000, 1)])
        self.assertEqual(told.query("SELECT count(*) FROM u, t WHERE u.a = t.a")[1], [(2000,)])

    def test_many_commits(self):
        told = database(T)
        began = time.time()
        told.commit([("t", [], [(at, "a", at % 10) for at in range(1900)])])
        for at in range(130):
            told.commit([("t", [(at, "a", at % 10)], [(at, "b", at % 10)])])
        for version in range(1, 132):
            found = told.query("SELECT b, count(*) FROM t GROUP BY b ORDER BY b", version=version)[1]
            self.assertEqual(found, [("a", 1901 - version)] + ([("b", version - 1)] if version > 1 else []))
        self.assertLess(time.time() - began, 30)

    def test_many_queries_are_told_soon(self):
        told = database()
        for at in range(20):
            told.commit([("t", [], [(at, "a", at % 3)]), ("u", [], [(at % 5, at)])])
        began = time.time()
        for at in range(3000):
            told.query("SELECT t.a, d FROM t JOIN u ON t.a = u.a WHERE c > 0", version=at % 21, choice=at)
        self.assertLess(time.time() - began, 20)


if __name__ == "__main__":
    unittest.main()
