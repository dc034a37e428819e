import time
import unittest

import generated
from entablature.binder import bind
from entablature.errors import BadKind, BadName, PeristyleError, TooMuch
from entablature.grammar import parse
from entablature.plan import kinds

SCHEMAS = (("t", (("a", "int", False), ("b", "text", True), ("c", "bool", True)), ((0,),)),
           ("u", (("a", "int", True), ("d", "int", True)), ()),
           ("v", (("e", "text", True),), ()))
T, U, V = ("scan", "t"), ("scan", "u"), ("scan", "v")
YES = ("const", "bool", True)
ROW = ("rows", (), ((),))
ERRORS = {"N": BadName, "K": BadKind}


def col(at):
    return ("col", at)


def outer(far, at):
    return ("outer", far, at)


def num(value):
    return ("const", "int", value)


def text(value):
    return ("const", "text", value)


def op(name, *args):
    return ("op", name, args)


def select(plan, *exprs):
    return ("select", exprs, plan)


def where(cond, plan):
    return ("where", cond, plan)


def join(side, cond, left, right):
    return ("join", side, cond, left, right)


def top(order, plan, limit=None, offset=0):
    return ("top", order, limit, offset, plan)


def up(expr):
    return (expr, False, False)


COUNT = ("rows", False, None)
BOTH = join("inner", YES, T, U)


class Plans(unittest.TestCase):

    def check(self, query, plan, names):
        got = bind(parse(query), SCHEMAS)
        self.assertEqual(repr(got[0]), repr(plan), query)
        self.assertEqual(got[1], tuple(names.split()), query)
        self.assertEqual(len(kinds(plan, SCHEMAS)), len(got[1]))

    def test_plain_selects(self):
        self.check("SELECT a FROM t", select(T, col(0)), "a")
        self.check("SELECT * FROM t", select(T, col(0), col(1), col(2)), "a b c")
        self.check("SELECT t.*, 1, b AS x, a + 1 FROM t", select(T, col(0), col(1), col(2), num(1), col(1), op("add", col(0), num(1))),
                   "a b c c4 x c6")
        self.check("SELECT 1, 'x', NULL, TRUE", select(ROW, num(1), text("x"), num(None), YES), "c1 c2 c3 c4")
        self.check("SELECT (a), x.b FROM t x WHERE c", select(where(col(2), T), col(0), col(1)), "a b")
        self.check("SELECT DISTINCT a FROM t", ("distinct", select(T, col(0))), "a")
        self.check("SELECT a IS NOT TRUE FROM (SELECT c AS a FROM t) x",
                   select(select(T, col(2)), op("not", op("same", col(0), YES))), "c1")

    def test_sources(self):
        self.check("SELECT b, d FROM t, u", select(BOTH, col(1), col(4)), "b d")
        self.check("SELECT t.a, u.a FROM t CROSS JOIN u", select(BOTH, col(0), col(3)), "a a")
        self.check("SELECT 1 FROM t, u, v", select(join("inner", YES, BOTH, V), num(1)), "c1")
        self.check("SELECT u.* FROM t LEFT JOIN u ON t.a = u.a", select(join("left", op("eq", col(0), col(3)), T, U), col(3), col(4)), "a d")
        on = op("eq", col(0), col(2))
        self.check("SELECT e FROM v, u JOIN t ON u.a = t.a",
                   select(join("inner", YES, V, join("inner", on, U, T)), col(0)), "e")
        self.check("SELECT 1 FROM t RIGHT JOIN u ON c FULL JOIN v ON e = b",
                   select(join("full", op("eq", col(5), col(1)), join("right", col(2), T, U), V), num(1)), "c1")
        self.check("SELECT x.k FROM (SELECT a AS k FROM u) x", select(select(U, col(0)), col(0)), "k")

    def test_stars(self):
        self.check("SELECT * FROM u x, u y", select(join("inner", YES, U, U), col(0), col(1), col(2), col(3)), "a d a d")
        self.check("SELECT y.* FROM u x, u y", select(join("inner", YES, U, U), col(2), col(3)), "a d")
        self.check("SELECT * FROM (SELECT 1, 2 AS a) x", select(select(ROW, num(1), num(2)), col(0), col(1)), "c1 a")

    def test_stars_in_inner_queries(self):
        star = select(T, col(0), col(1), col(2))
        self.check("SELECT x.c, b FROM (SELECT * FROM t) x", select(star, col(2), col(1)), "c b")
        self.check("SELECT * FROM v UNION ALL SELECT 'a'", ("union", select(V, col(0)), select(ROW, text("a"))), "e")
        self.check("SELECT (SELECT v.* FROM v) || 'x'", select(ROW, op("cat", ("scalar", select(V, col(0))), text("x"))), "c1")

    def test_names_of_several_levels(self):
        inner = select(where(op("eq", col(0), outer(1, 0)), U), col(1))
        self.check("SELECT (SELECT d FROM u WHERE u.a = t.a) FROM t", select(T, ("scalar", inner)), "c1")
        # The inner FROM goes ahead for a name without a table; one of a table is looked for further out.
        self.check("SELECT (SELECT a FROM u WHERE b = 'x') FROM t",
                   select(T, ("scalar", select(where(op("eq", outer(1, 1), text("x")), U), col(0)))), "c1")
        deep = select(where(op("and", op("eq", outer(2, 0), outer(1, 0)), op("eq", col(0), outer(2, 1))), V), num(1))
        self.check("SELECT a FROM t WHERE EXISTS (SELECT 1 FROM u WHERE EXISTS (SELECT 1 FROM v WHERE t.a = u.a AND e = b))",
                   select(where(("exists", select(where(("exists", deep), U), num(1))), T), col(0)), "a")
        self.check("SELECT (SELECT (SELECT t.a)) FROM t",
                   select(T, ("scalar", select(ROW, ("scalar", select(ROW, outer(2, 0)))))), "c1")
        self.check("SELECT (VALUES (a)) FROM t", select(T, ("scalar", select(ROW, outer(1, 0)))), "c1")
        # t is the source of the innermost FROM that has one.
        self.check("SELECT (SELECT t.d FROM u AS t) FROM t", select(T, ("scalar", select(U, col(1)))), "c1")

    def test_queries_in_from_do_not_see_that_from(self):
        self.check("SELECT (SELECT k FROM (SELECT t.a AS k) x) FROM t",
                   select(T, ("scalar", select(select(ROW, outer(1, 0)), col(0)))), "c1")
        self.check("SELECT (SELECT k FROM u, (SELECT t.a AS k) x) FROM t",
                   select(T, ("scalar", select(join("inner", YES, U, select(ROW, outer(1, 0))), col(2)))), "c1")

    def test_with(self):
        w = select(U, col(0))
        self.check("WITH w AS (SELECT a FROM u) SELECT x.a, w.a FROM w, w AS x",
                   select(join("inner", YES, w, w), col(1), col(0)), "a a")
        self.check("WITH w AS (SELECT 1 AS k), x AS (SELECT k + 1 AS k FROM w) SELECT k FROM x",
                   select(select(select(ROW, num(1)), op("add", col(0), num(1))), col(0)), "k")
        # A named query hides a table, but not within itself.
        self.check("WITH t AS (SELECT b FROM t) SELECT * FROM t", select(select(T, col(1)), col(0)), "b")
        self.check("WITH w AS (SELECT 1 AS k) SELECT (WITH w AS (SELECT 2 AS k) SELECT k FROM w), (SELECT k FROM w)",
                   select(ROW, ("scalar", select(select(ROW, num(2)), col(0))), ("scalar", select(select(ROW, num(1)), col(0)))), "c1 c2")

    def test_with_that_is_used_deeper_inside(self):
        one = select(where(op("eq", col(0), outer(1, 0)), U), col(1))
        two = select(where(op("eq", col(0), outer(2, 0)), U), col(1))
        self.check("SELECT (WITH w AS (SELECT d FROM u WHERE u.a = t.a) SELECT d FROM w) FROM t", select(T, ("scalar", select(one, col(0)))), "c1")
        self.check("SELECT (WITH w AS (SELECT d FROM u WHERE u.a = t.a) SELECT 1 FROM v WHERE EXISTS (SELECT d FROM w)) FROM t",
                   select(T, ("scalar", select(where(("exists", select(two, col(0))), V), num(1)))), "c1")
        # Only what leads out of the named query leads further out.
        w1 = where(("exists", select(where(op("eq", outer(1, 0), outer(2, 0)), V), num(1))), U)
        w2 = where(("exists", select(where(op("eq", outer(1, 0), outer(3, 0)), V), num(1))), U)
        self.check("""SELECT (WITH w AS (SELECT d FROM u WHERE EXISTS (SELECT 1 FROM v WHERE u.a = t.a))
                      SELECT (SELECT d FROM w) FROM w) FROM t""",
                   select(T, ("scalar", select(select(w1, col(1)), ("scalar", select(select(w2, col(1)), col(0)))))), "c1")

    def test_groups(self):
        self.check("SELECT b, count(*), sum(a) FROM t GROUP BY b",
                   select(("group", (col(1),), (COUNT, ("sum", False, col(0))), T), col(0), col(1), col(2)), "b c2 c3")
        self.check("SELECT count(*) FROM t", select(("group", (), (COUNT,), T), col(0)), "c1")
        self.check("SELECT 1 FROM t GROUP BY a", select(("group", (col(0),), (), T), num(1)), "c1")
        self.check("SELECT 1 FROM t HAVING TRUE", select(where(YES, ("group", (), (), T)), num(1)), "c1")
        self.check("SELECT 1 FROM t ORDER BY count(*)", select(top((up(col(1)),), select(("group", (), (COUNT,), T), num(1), col(0))), col(0)), "c1")
        self.check("SELECT count(*)", select(("group", (), (COUNT,), ROW), col(0)), "c1")

    def test_aggs_are_taken_once(self):
        group = ("group", (col(1),), (("max", False, col(0)), ("max", True, col(0)), COUNT, ("min", False, col(2))), where(col(2), T))
        cond = op("gt", col(3), num(1))
        self.check("""SELECT max(a) + max( t.a ), max(DISTINCT a), b FROM t WHERE c GROUP BY b HAVING count(*) > 1
                      ORDER BY min(c), max(a)""",
                   select(top((up(col(3)), up(col(4))),
                              select(where(cond, group), op("add", col(1), col(1)), col(2), col(0), col(4), col(1))),
                          col(0), col(1), col(2)), "c1 c2 b")

    def test_calls_anywhere_in_expressions(self):
        group = ("group", (), (("max", False, col(0)), ("every", False, col(2)), ("min", False, col(0)), COUNT), T)
        self.check("""SELECT CASE WHEN max(a) > 1 THEN 1 WHEN every(c) THEN min(a) ELSE - count(*) END, NOT (every(c) AND TRUE),
                      max(a) IN (SELECT d FROM u), min(a) BETWEEN 1 AND max(a) FROM t""",
                   select(group, ("case", ((op("gt", col(0), num(1)), num(1)), (col(1), col(2))), op("neg", col(3))), op("not", op("and", col(1), YES)),
                          ("in", col(0), select(U, col(1))), op("and", op("ge", col(2), num(1)), op("le", col(2), col(0)))), "c1 c2 c3 c4")
        rank, place = ("rank", None, (), (), None), ("place", None, (), (), None)
        self.check("""SELECT CASE WHEN rank() OVER () > 1 THEN place() OVER () ELSE - rank() OVER () END,
                      place() OVER () IN (SELECT d FROM u) FROM t""",
                   select(("window", (rank, place), T), ("case", ((op("gt", col(3), num(1)), col(4)),), op("neg", col(3))),
                          ("in", col(4), select(U, col(1)))), "c1 c2")

    def test_keys_that_are_expressions(self):
        plus = op("add", col(0), num(1))
        self.check("SELECT (a + 1) * 2, a + 1 FROM t GROUP BY a + 1",
                   select(("group", (plus,), (), T), op("mul", col(0), num(2)), col(0)), "c1 c2")
        # The outermost expression that equals a key, and the first key.
        self.check("SELECT a + 1, a, a + 2 FROM t GROUP BY a, a + 1, a",
                   select(("group", (col(0), plus, col(0)), (), T), col(1), col(0), op("add", col(0), num(2))), "c1 a c3")
        self.check("SELECT t.a FROM t GROUP BY a HAVING a > 1", select(where(op("gt", col(0), num(1)), ("group", (col(0),), (), T)), col(0)), "a")
        self.check("SELECT 1 + 1 FROM t GROUP BY 1", select(("group", (num(1),), (), T), op("add", col(0), col(0))), "c1")
        self.check("SELECT sum(a) FROM t GROUP BY a", select(("group", (col(0),), (("sum", False, col(0)),), T), col(1)), "c1")
        self.check("SELECT TRUE, 1 FROM t GROUP BY 1", select(("group", (num(1),), (), T), YES, col(0)), "c1 c2")

    def test_null_keys(self):
        group = ("group", (num(None),), (), T)
        self.check("SELECT NULL FROM t GROUP BY NULL", select(group, col(0)), "c1")
        self.check("SELECT NULL = 1, upper(NULL), coalesce('a', NULL) FROM t GROUP BY NULL",
                   select(group, op("eq", col(0), num(1)), op("upper", text(None)), op("coalesce", text("a"), text(None))), "c1 c2 c3")

    def test_nested_queries_after_grouping(self):
        sub = select(where(op("eq", col(0), outer(1, 0)), U), col(1))
        self.check("SELECT (SELECT d FROM u WHERE u.a = t.a) FROM t GROUP BY b, a",
                   select(("group", (col(1), col(0)), (), T),
                          ("scalar", select(where(op("eq", col(0), outer(1, 1)), U), col(1)))), "c1")
        # The whole nested query is a key; a name in it is none.
        self.check("SELECT (SELECT d FROM u WHERE u.a = t.a) + 1 FROM t GROUP BY (SELECT d FROM u WHERE u.a = t.a)",
                   select(("group", (("scalar", sub),), (), T), op("add", col(0), num(1))), "c1")
        self.check("SELECT count(*) FROM t GROUP BY a HAVING EXISTS (SELECT 1 FROM u WHERE d = t.a)",
                   select(where(("exists", select(where(op("eq", col(1), outer(1, 0)), U), num(1))),
                                ("group", (col(0),), (COUNT,), T)), col(1)), "c1")
        # Calls in a nested query are that query's, whatever they are of.
        self.check("SELECT (SELECT sum(t.a) FROM u) FROM t",
                   select(T, ("scalar", select(("group", (), (("sum", False, outer(1, 0)),), U), col(0)))), "c1")
        self.check("SELECT a IN (SELECT d FROM u WHERE u.a = t.a) FROM t GROUP BY a",
                   select(("group", (col(0),), (), T), ("in", col(0), select(where(op("eq", col(0), outer(1, 0)), U), col(1)))), "c1")
        self.check("SELECT max(a) IN (SELECT d FROM u) FROM t",
                   select(("group", (), (("max", False, col(0)),), T), ("in", col(0), select(U, col(1)))), "c1")

    def test_stars_after_grouping(self):
        self.check("SELECT * FROM u GROUP BY d, a", select(("group", (col(1), col(0)), (), U), col(1), col(0)), "a d")
        self.check("SELECT u.*, count(*) FROM u GROUP BY a, d", select(("group", (col(0), col(1)), (COUNT,), U), col(0), col(1), col(2)), "a d c3")

    def test_windows(self):
        rank = ("rank", None, (), (up(col(0)),), None)
        self.check("SELECT rank() OVER (ORDER BY a), a FROM t", select(("window", (rank,), T), col(3), col(0)), "c1 a")
        total = ("sum", col(0), (col(1),), ((col(2), True, True),), (("before", 2), ("here", 0)))
        self.check("SELECT a + sum(a) OVER (PARTITION BY b ORDER BY c DESC ROWS BETWEEN 2 PRECEDING AND CURRENT ROW) FROM t",
                   select(("window", (total,), T), op("add", col(0), col(3))), "c1")
        self.check("SELECT count(*) OVER (), place() OVER (), dense() OVER (), lag(b) OVER (), lead(NULL) OVER () FROM t",
                   select(("window", (("rows", None, (), (), None), ("place", None, (), (), None), ("dense", None, (), (), None),
                                      ("lag", col(1), (), (), None), ("lead", num(None), (), (), None)), T),
                          col(3), col(4), col(5), col(6), col(7)), "c1 c2 c3 c4 c5")
        # Equal ones are taken once; those of ORDER BY stand behind those of the outs.
        self.check("SELECT rank() OVER (ORDER BY a), rank() OVER (ORDER BY t.a) FROM t ORDER BY lag(a) OVER (), rank() OVER (ORDER BY a)",
                   select(top((up(col(2)), up(col(0))),
                              select(("window", (rank, ("lag", col(0), (), (), None)), T), col(3), col(3), col(4))), col(0), col(1)), "c1 c2")

    def test_windows_over_groups(self):
        group = ("group", (col(1),), (("sum", False, col(0)), ("max", False, col(0)), ("min", False, col(0))), T)
        fun = ("sum", col(1), (col(2),), ((col(3), True, True), up(col(0))), None)
        self.check("SELECT b, sum(sum(a)) OVER (PARTITION BY max(a) ORDER BY min(a) DESC, b) FROM t GROUP BY b",
                   select(("window", (fun,), group), col(0), col(4)), "b c2")
        fun = ("sum", col(0), (), ((col(1), False, True), (col(0), True, False)), None)
        self.check("SELECT 1 FROM t ORDER BY sum(sum(a)) OVER (ORDER BY min(a) NULLS FIRST, sum(a) DESC NULLS LAST)",
                   select(top((up(col(1)),), select(("window", (fun,), ("group", (), (("sum", False, col(0)), ("min", False, col(0))), T)),
                                                    num(1), col(2))), col(0)), "c1")
        fun = ("count", col(1), (), (), None)
        self.check("SELECT count(b) OVER () + 1 FROM t", select(("window", (fun,), T), op("add", col(3), num(1))), "c1")
        self.check("SELECT rank() OVER (ORDER BY a + 1) FROM t GROUP BY a + 1 HAVING a + 1 > 2",
                   select(("window", (("rank", None, (), (up(col(0)),), None),),
                           where(op("gt", col(0), num(2)), ("group", (op("add", col(0), num(1)),), (), T))), col(1)), "c1")

    def test_order(self):
        s = select(T, col(0), col(1))
        self.check("SELECT a, b FROM t ORDER BY b", top((up(col(1)),), s), "a b")
        self.check("SELECT a, b FROM t ORDER BY b DESC, t.a NULLS FIRST LIMIT 3 OFFSET 1",
                   top(((col(1), True, True), (col(0), False, True)), s, 3, 1), "a b")
        self.check("SELECT a, b FROM t LIMIT 0", top((), s, 0), "a b")
        self.check("SELECT a, b FROM t OFFSET 2", top((), s, None, 2), "a b")
        self.check("SELECT a, b FROM t OFFSET 1", top((), s, None, 1), "a b")
        self.check("SELECT a, b FROM t OFFSET 0", s, "a b")
        self.check("SELECT a AS b FROM t ORDER BY b", top((up(col(0)),), select(T, col(0))), "b")
        self.check("SELECT a AS x FROM t ORDER BY a", top((up(col(0)),), select(T, col(0))), "x")
        self.check("SELECT a AS x, b AS x FROM (SELECT a, b, c AS x FROM t) y ORDER BY x",
                   select(top((up(col(2)),), select(select(T, col(0), col(1), col(2)), col(0), col(1), col(2))), col(0), col(1)), "x x")
        self.check("SELECT a FROM t ORDER BY c, a + 1, c", select(top((up(col(1)), up(col(2)), up(col(1))),
                   select(T, col(0), col(2), op("add", col(0), num(1)))), col(0)), "a")
        self.check("SELECT 1 + 1 FROM t ORDER BY c1", top((up(col(0)),), select(T, op("add", num(1), num(1)))), "c1")
        # A number is a constant.
        self.check("SELECT a FROM t ORDER BY 1", select(top((up(col(1)),), select(T, col(0), num(1))), col(0)), "a")
        self.check("SELECT a, 1 FROM t ORDER BY 1", top((up(col(1)),), select(T, col(0), num(1))), "a c2")
        self.check("SELECT a FROM t ORDER BY NULL", select(top((up(col(1)),), select(T, col(0), num(None))), col(0)), "a")

    def test_order_where_names_of_outs_alone_may_stand(self):
        self.check("SELECT DISTINCT a AS x FROM t ORDER BY x + 1", top((up(op("add", col(0), num(1))),), ("distinct", select(T, col(0)))), "x")
        self.check("SELECT a FROM t UNION ALL SELECT d FROM u ORDER BY a", top((up(col(0)),), ("union", select(T, col(0)), select(U, col(1)))), "a")
        self.check("SELECT a FROM t UNION ALL SELECT d FROM u ORDER BY a DESC NULLS LAST, - a NULLS FIRST",
                   top(((col(0), True, False), (op("neg", col(0)), False, True)), ("union", select(T, col(0)), select(U, col(1)))), "a")
        self.check("VALUES (1, 2) ORDER BY c2, c1", top((up(col(1)), up(col(0))), ("rows", ("int", "int"), ((1, 2),))), "c1 c2")
        self.check("(SELECT a FROM t) ORDER BY - a", top((up(op("neg", col(0))),), select(T, col(0))), "a")
        self.check("SELECT DISTINCT a FROM t ORDER BY (SELECT max(d) FROM u WHERE d < a + a) LIMIT 1",
                   top((up(("scalar", select(("group", (), (("max", False, col(1)),), where(op("lt", col(1), op("add", col(0), col(0))), U)), col(0)))),),
                       ("distinct", select(T, col(0))), 1), "a")
        self.check("SELECT DISTINCT a AS k FROM t ORDER BY EXISTS (SELECT 1 FROM u WHERE d = k)",
                   top((up(("exists", select(where(op("eq", col(1), outer(1, 0)), U), num(1)))),), ("distinct", select(T, col(0)))), "k")

    def test_sets(self):
        s, r = select(T, col(0)), select(U, col(1))
        d = lambda plan: ("distinct", plan)
        for word, plan in [("UNION", d(("union", s, r))), ("UNION ALL", ("union", s, r)), ("EXCEPT", ("except", d(s), d(r))),
                           ("EXCEPT ALL", ("except", s, r)), ("INTERSECT", ("meet", d(s), d(r))), ("INTERSECT ALL", ("meet", s, r))]:
            self.check(f"SELECT a FROM t {word} SELECT d FROM u", plan, "a")
        self.check("SELECT a FROM t UNION (SELECT d FROM u LIMIT 1)", d(("union", s, top((), r, 1))), "a")
        self.check("((SELECT a FROM t))", s, "a")
        self.check("WITH w AS (SELECT a FROM t) (WITH x AS (SELECT a FROM w) SELECT a FROM x)", select(select(s, col(0)), col(0)), "a")

    def test_values(self):
        self.check("VALUES (1, NULL, NULL), (-2, 'a', NULL), (NULL, NULL, NULL)",
                   ("rows", ("int", "text", "int"), ((1, None, None), (-2, "a", None), (None, None, None))), "c1 c2 c3")
        self.check("VALUES (-0), (- 5)", ("rows", ("int",), ((0,), (-5,))), "c1")
        self.check("VALUES (1 + 1)", select(ROW, op("add", num(1), num(1))), "c1")
        self.check("VALUES (NULL, -1), (- -1, NULL), (4, 3)",
                   ("union", ("union", select(ROW, num(None), op("neg", num(1))), select(ROW, op("neg", op("neg", num(1))), num(None))),
                    select(ROW, num(4), num(3))), "c1 c2")
        self.check("VALUES (-NULL)", select(ROW, op("neg", num(None))), "c1")
        self.check("SELECT (VALUES (b), (NULL)) FROM t",
                   select(T, ("scalar", ("union", select(ROW, outer(1, 1)), select(ROW, text(None))))), "c1")

    def test_null_literals(self):
        for query, expr in [("NULL + 1", op("add", num(None), num(1))), ("NULL = 'a'", op("eq", text(None), text("a"))),
                            ("'a' = NULL", op("eq", text("a"), text(None))), ("NULL = NULL", op("eq", num(None), num(None))),
                            ("NULL IS NULL", op("isnull", num(None))), ("NULL IS TRUE", op("same", ("const", "bool", None), YES)),
                            ("NOT NULL", op("not", ("const", "bool", None))), ("NULL || 'a'", op("cat", text(None), text("a"))),
                            ("NULL LIKE NULL", op("like", text(None), text(None))), ("part(NULL, NULL, 1)", op("part", text(None), num(None), num(1))),
                            ("coalesce(NULL, TRUE)", op("coalesce", ("const", "bool", None), YES)),
                            ("CASE WHEN NULL THEN NULL END", ("case", ((("const", "bool", None), num(None)),), num(None))),
                            ("CASE WHEN TRUE THEN NULL WHEN TRUE THEN 'a' END", ("case", ((YES, text(None)), (YES, text("a"))), text(None))),
                            ("CASE WHEN TRUE THEN 'a' ELSE NULL END", ("case", ((YES, text("a")),), text(None))),
                            ("NULL IN (SELECT 'a')", ("in", text(None), select(ROW, text("a")))),
                            ("NULL IN (SELECT NULL)", ("in", num(None), select(ROW, num(None)))),
                            ("1 IN (SELECT NULL)", ("in", num(1), select(ROW, num(None)))),
                            ("NULL AND TRUE", op("and", ("const", "bool", None), YES)),
                            ("(NULL) BETWEEN 'a' AND NULL", op("and", op("ge", text(None), text("a")), op("le", num(None), num(None)))),
                            ("most(NULL, NULL)", op("most", num(None), num(None)))]:
            self.check("SELECT " + query, select(ROW, expr), "c1")
        self.check("SELECT sum(NULL), every(NULL), count(NULL), min(NULL) FROM t",
                   select(("group", (), (("sum", False, num(None)), ("every", False, ("const", "bool", None)), ("count", False, num(None)),
                                         ("min", False, num(None))), T), col(0), col(1), col(2), col(3)), "c1 c2 c3 c4")
        self.check("SELECT 1 FROM t WHERE NULL HAVING NULL",
                   select(where(("const", "bool", None), ("group", (), (), where(("const", "bool", None), T))), num(1)), "c1")
        self.check("SELECT 1 FROM t JOIN u ON NULL", select(join("inner", ("const", "bool", None), T, U), num(1)), "c1")

    def test_what_is_told_is_apart(self):
        tree = parse("SELECT a FROM t")
        names = bind(tree, SCHEMAS)[1]
        self.assertEqual(type(names), tuple)
        self.assertEqual(bind(tree, SCHEMAS), bind(tree, SCHEMAS))


class Mistakes(unittest.TestCase):

    def check(self, query):
        """The mistake stands where the mark does: {N} for BadName, {K} for BadKind."""
        word = query[query.index("{") + 1]
        at = query.index("{")
        told = query.replace("{" + word + "}", "")
        with self.assertRaises(PeristyleError, msg=query) as caught:
            bind(parse(told), SCHEMAS)
        self.assertEqual(type(caught.exception), ERRORS[word], query)
        self.assertEqual(caught.exception.at, at, query)

    def too_much(self, query):
        with self.assertRaises(TooMuch, msg=query):
            bind(parse(query), SCHEMAS)

    def test_names(self):
        for query in ["SELECT {N}nope FROM t", "SELECT {N}a FROM t, u", "SELECT {N}x.a FROM t", "SELECT {N}t.nope FROM t",
                      "SELECT {N}t.a FROM t AS x", "SELECT a FROM {N}nope", "SELECT a FROM t, {N}u AS t", "SELECT a FROM t JOIN {N}t ON TRUE",
                      "SELECT a FROM t, {N}t", "SELECT a FROM u, {N}(SELECT nope) AS u", "SELECT a FROM u, {N}nope AS u",
                      "SELECT {N}*", "SELECT {N}x.* FROM t", "SELECT {N}t.*", "SELECT (SELECT {N}t.* FROM u) FROM t",
                      "SELECT {N}x.k FROM t", "SELECT {N}x.k FROM (SELECT 1 AS k, 2 AS k) x",
                      "SELECT {N}k FROM (SELECT 1 AS k, 2 AS k) x", "SELECT (SELECT {N}a FROM u x, u y) FROM t",
                      "SELECT (SELECT {N}t.b FROM u AS t) FROM t", "WITH w AS (SELECT 1), {N}w AS (SELECT nope) SELECT 1",
                      "SELECT 1 FROM t, (SELECT {N}t.a) x", "SELECT 1 FROM t JOIN (SELECT {N}t.a) x ON TRUE",
                      "WITH w AS (SELECT {N}t.a) SELECT 1 FROM t", "WITH w AS (SELECT 1 FROM {N}w) SELECT 1",
                      "WITH w AS (SELECT 1 FROM {N}x), x AS (SELECT 1) SELECT 1", "WITH w AS (SELECT {N}nope) SELECT 1",
                      "SELECT (WITH w AS (SELECT 1) SELECT 1), (SELECT 1 FROM {N}w)", "SELECT 1 FROM t, u JOIN v ON {N}b = 'x'",
                      "SELECT 1 FROM u JOIN t ON {N}e = b JOIN v ON TRUE", "SELECT a FROM t GROUP BY {N}nope", "SELECT a AS k FROM t GROUP BY {N}k",
                      "SELECT a AS k FROM t WHERE {N}k = 1", "SELECT a AS k FROM t ORDER BY {N}k + 1", "VALUES ({N}a)",
                      "SELECT a FROM t UNION SELECT d FROM u ORDER BY {N}d", "SELECT DISTINCT a FROM t ORDER BY {N}b",
                      "SELECT DISTINCT a FROM t ORDER BY {N}t.a", "SELECT a, a FROM t UNION SELECT a, d FROM u ORDER BY {N}a",
                      "SELECT a AS x, b AS x FROM t ORDER BY {N}x", "SELECT (SELECT DISTINCT d FROM u ORDER BY {N}t.a) FROM t",
                      "(SELECT a FROM t) ORDER BY {N}b", "VALUES (1) ORDER BY {N}a", "SELECT {N}b FROM (SELECT a FROM t) x"]:
            self.check(query)

    def test_names_after_grouping(self):
        for query in ["SELECT {N}b FROM t GROUP BY a", "SELECT {N}a + a FROM t GROUP BY b",
                      "SELECT count(*), {N}a FROM t", "SELECT {N}a FROM t HAVING TRUE", "SELECT 1 FROM t HAVING {N}c",
                      "SELECT 1 FROM t GROUP BY a ORDER BY {N}b", "SELECT {N}* FROM t GROUP BY a", "SELECT a, {N}t.* FROM t GROUP BY a",
                      "SELECT {N}* FROM t GROUP BY a, b, a + 1", "SELECT {N}a FROM t GROUP BY a + 1", "SELECT {N}a + 2 FROM t GROUP BY a + 1",
                      "SELECT (SELECT {N}b FROM u) FROM t GROUP BY a", "SELECT (SELECT d FROM u WHERE d = {N}t.a) FROM t GROUP BY a + 1",
                      "SELECT (SELECT sum({N}t.a) FROM u) FROM t GROUP BY b", "SELECT sum({N}a) OVER () FROM t GROUP BY b",
                      "SELECT rank() OVER (ORDER BY {N}a) FROM t GROUP BY b", "SELECT rank() OVER (PARTITION BY b, {N}a) FROM t GROUP BY b",
                      "SELECT EXISTS (SELECT 1 FROM u WHERE EXISTS (SELECT 1 FROM v WHERE {N}b = e)) FROM t GROUP BY a",
                      "SELECT {N}a IN (SELECT d FROM u) FROM t GROUP BY b", "SELECT sum(a) FROM t GROUP BY b HAVING b = 'x' AND {N}a = 1"]:
            self.check(query)

    def test_names_after_grouping_beside_other_mistakes(self):
        for query in ["SELECT {N}a + upper(1) FROM t GROUP BY b", "SELECT upper({K}1) || a FROM t GROUP BY b", "SELECT upper({N}a) FROM t GROUP BY b",
                      "SELECT (a + 1) + upper({K}1) FROM t GROUP BY a + 1", "SELECT ({N}a + 2) + nope FROM t GROUP BY a + 1",
                      "SELECT (SELECT t.a FROM u WHERE {N}nope) FROM t GROUP BY b",
                      "SELECT (SELECT 1 FROM u WHERE d = {N}t.a AND nope) FROM t GROUP BY b",
                      "SELECT (SELECT 1 FROM u WHERE d = t.a AND {N}nope) FROM t GROUP BY a",
                      "SELECT {N}a, nope FROM t GROUP BY b", "SELECT {N}nope, a FROM t GROUP BY b"]:
            self.check(query)

    def test_kinds(self):
        for query in ["SELECT {K}b + a FROM t", "SELECT a + {K}b FROM t", "SELECT a = {K}b FROM t", "SELECT coalesce(a, {K}b) FROM t",
                      "SELECT upper({K}1)", "SELECT part('a', {K}'b', 1)", "SELECT part('a', 1, {K}TRUE)",
                      "SELECT NOT {K}a FROM t", "SELECT {K}a AND c FROM t", "SELECT c OR {K}b FROM t", "SELECT - {K}b FROM t", "SELECT {K}a || b FROM t",
                      "SELECT a {K}IS TRUE FROM t", "SELECT a BETWEEN {K}b AND 2 FROM t", "SELECT a BETWEEN 1 AND {K}b FROM t",
                      "SELECT a IN (1, {K}b) FROM t", "SELECT a IN ({K}b) FROM t", "SELECT 1 FROM t WHERE {K}a", "SELECT 1 FROM t HAVING {K}1",
                      "SELECT 1 FROM t JOIN u ON {K}d", "SELECT CASE WHEN {K}a THEN 1 END FROM t", "SELECT CASE WHEN c THEN 1 ELSE {K}b END FROM t",
                      "SELECT CASE WHEN c THEN NULL WHEN c THEN 1 ELSE {K}'a' END FROM t", "SELECT CASE WHEN c THEN 1 WHEN c THEN {K}'a' ELSE b END FROM t",
                      "SELECT {K}(SELECT * FROM t)", "SELECT 1 + {K}(SELECT b FROM t)",
                      "SELECT {K}a IN (SELECT b FROM t) FROM t", "SELECT {K}a IN (SELECT a, b FROM t) FROM t", "SELECT {K}NULL IN (SELECT a, b FROM t)",
                      "SELECT ({K}a) NOT IN (SELECT b FROM t) FROM t", "SELECT a FROM t UNION {K}SELECT b FROM t", "SELECT a FROM t UNION {K}SELECT a, b FROM t",
                      "SELECT a FROM t UNION ({K}SELECT b FROM t)", "SELECT 'a' UNION {K}SELECT NULL", "SELECT a FROM t EXCEPT {K}VALUES ('a')",
                      "VALUES (1, 2), (3, 4), ({K}5)", "VALUES (1), ({K}2, 3)", "VALUES (nope), ({K}1, 2)", "VALUES (1), ({K}'a')", "VALUES (NULL), ('a'), ({K}1)",
                      "VALUES (1 + 1), ({K}'a')", "SELECT sum({K}b) FROM t", "SELECT avg({K}c) FROM t", "SELECT every({K}a) FROM t", "SELECT some({K}b) FROM t",
                      "SELECT sum({K}b) OVER () FROM t", "SELECT every({K}a) OVER () FROM t", "SELECT upper({K}sum(a)) FROM t", "SELECT upper({K}rank() OVER ()) FROM t", "SELECT upper({K}count(b) OVER ()) FROM t", "SELECT upper({K}count(b)) FROM t",
                      "SELECT {K}1 LIKE 2", "SELECT 'a' LIKE {K}2",
                      "SELECT upper({K}CASE WHEN c THEN NULL END) FROM t", "SELECT upper({K}coalesce(NULL, NULL)) FROM t"]:
            self.check(query)

    def test_calls(self):
        for query in ["SELECT {K}foo(a) FROM t", "SELECT {K}mod(a) FROM t", "SELECT {K}abs(DISTINCT a) FROM t", "SELECT {K}abs(*) FROM t",
                      "SELECT {K}abs(a) OVER () FROM t", "SELECT {K}eq(a, a) FROM t", "SELECT {K}sum(*) FROM t", "SELECT {K}sum() FROM t",
                      "SELECT {K}count() FROM t", "SELECT {K}count(a, a) FROM t", "SELECT {K}rank() FROM t", "SELECT {K}lag(a) FROM t",
                      "SELECT {K}rank(a) OVER () FROM t", "SELECT {K}lag() OVER () FROM t", "SELECT {K}lead(a, a) OVER () FROM t", "SELECT {K}place(*) OVER () FROM t",
                      "SELECT {K}count(DISTINCT a) OVER () FROM t", "SELECT {K}sum(*) OVER () FROM t", "SELECT {K}sum() OVER () FROM t", "SELECT {K}foo() OVER () FROM t",
                      "SELECT 1 FROM t WHERE {K}sum(a) > 1", "SELECT 1 FROM t JOIN u ON {K}count(*) > 1", "SELECT 1 FROM t GROUP BY {K}sum(a)", "SELECT sum({K}sum(a)) FROM t",
                      "SELECT 1 FROM t WHERE {K}rank() OVER () > 1", "SELECT 1 FROM t JOIN u ON {K}rank() OVER () = 1", "SELECT 1 FROM t GROUP BY {K}rank() OVER ()",
                      "SELECT 1 FROM t HAVING {K}rank() OVER () = 1", "SELECT sum({K}rank() OVER ()) FROM t", "SELECT sum({K}rank() OVER ()) OVER () FROM t",
                      "SELECT sum(a) OVER (PARTITION BY {K}rank() OVER ()) FROM t", "SELECT sum(a) OVER (ORDER BY {K}rank() OVER ()) FROM t",
                      "SELECT DISTINCT a FROM t ORDER BY {K}sum(a)", "SELECT a FROM t UNION SELECT a FROM t ORDER BY {K}count(*)", "VALUES ({K}sum(1))",
                      "SELECT DISTINCT a FROM t ORDER BY {K}rank() OVER ()", "VALUES ({K}rank() OVER ())", "VALUES (1) ORDER BY {K}count(*)",
                      "SELECT {K}rank() OVER (ROWS BETWEEN CURRENT ROW AND CURRENT ROW) FROM t", "SELECT {K}lag(a) OVER (ROWS BETWEEN CURRENT ROW AND CURRENT ROW) FROM t"]:
            self.check(query)

    def test_frames(self):
        edges = ["UNBOUNDED PRECEDING", "5 PRECEDING", "2 PRECEDING", "0 PRECEDING", "CURRENT ROW", "0 FOLLOWING", "2 FOLLOWING", "5 FOLLOWING",
                 "UNBOUNDED FOLLOWING"]
        for first, one in enumerate(edges):
            for last, other in enumerate(edges):
                query = f"SELECT sum(a) OVER (ROWS BETWEEN {one} AND {other}) FROM t"
                if first <= last and first < 8 and last > 0:
                    self.assertEqual(bind(parse(query), SCHEMAS)[1], ("c1",))
                else:
                    self.check(query.replace("sum", "{K}sum"))

    def test_a_refused_call_goes_ahead_of_its_arguments(self):
        for query in ["SELECT {K}foo(nope) FROM t", "SELECT {K}sum(nope, 1) FROM t", "SELECT {K}rank(nope) OVER () FROM t", "SELECT {K}lag(nope) FROM t",
                      "SELECT 1 FROM t WHERE {K}sum(nope) > 1", "SELECT {K}abs(nope) OVER (ORDER BY nope) FROM t", "SELECT {K}foo(sum(nope)) FROM t",
                      "SELECT {K}rank(sum(nope)) OVER () FROM t", "SELECT {K}foo(rank() OVER (ORDER BY nope)) FROM t",
                      "SELECT sum({K}sum(sum(nope)) OVER ()) OVER () FROM t", "SELECT sum(a) OVER (ORDER BY {K}sum(sum(nope)) OVER ()) FROM t", "SELECT sum(a + {K}sum(a)) FROM t",
                      "SELECT sum({N}nope + sum(a)) FROM t", "SELECT sum({K}sum(a) + nope) FROM t", "SELECT 1 FROM t HAVING {K}sum(sum(nope)) OVER () > 1",
                      "SELECT {K}sum(nope) OVER (ROWS BETWEEN CURRENT ROW AND UNBOUNDED PRECEDING) FROM t",
                      "SELECT {K}sum(sum(nope)) OVER (ROWS BETWEEN CURRENT ROW AND UNBOUNDED PRECEDING) FROM t", "VALUES ({K}sum(nope))"]:
            self.check(query)

    def test_the_order_of_mistakes(self):
        for query in ["SELECT nope FROM {N}nope", "SELECT nope FROM t WHERE {N}nope", "SELECT nope FROM t JOIN u ON {N}nope WHERE nope", "SELECT 1 FROM {N}nope JOIN u ON nope",
                      "SELECT 1 FROM t JOIN {N}nope ON nope", "SELECT 1 FROM t JOIN u ON {N}nope JOIN nope ON TRUE", "SELECT 1 FROM t JOIN u ON {K}1, nope",
                      "SELECT nope FROM t WHERE c GROUP BY {N}nope", "SELECT sum(nope) FROM t GROUP BY {N}nope", "SELECT nope, sum({K}b) FROM t", "SELECT nope, sum({N}nope) FROM t",
                      "SELECT nope FROM t HAVING sum({N}nope) > 1", "SELECT nope FROM t HAVING {N}nope", "SELECT nope FROM t HAVING nope ORDER BY sum({N}nope)",
                      "SELECT sum(a), nope FROM t HAVING {K}1 ORDER BY nope", "SELECT nope, rank() OVER (ORDER BY {N}nope) FROM t", "SELECT nope FROM t ORDER BY rank() OVER (ORDER BY {N}nope)",
                      "SELECT rank() OVER (ORDER BY nope) FROM t HAVING {N}nope", "SELECT sum(a), {N}nope FROM t ORDER BY nope", "SELECT {N}nope, 1 + 'a' FROM t",
                      "SELECT 1 + {K}'a', nope FROM t", "SELECT {K}'a' + nope FROM t", "SELECT {N}nope + 'a' FROM t", "SELECT {N}nope = 1 + 'a' FROM t",
                      "SELECT CASE WHEN {K}1 THEN nope END FROM t", "SELECT CASE WHEN c THEN {N}nope WHEN 1 THEN 2 END FROM t", "SELECT CASE WHEN c THEN 1 WHEN {K}1 THEN 'a' END FROM t",
                      "SELECT {N}nope IN (SELECT nope) FROM t", "SELECT a IN (SELECT {N}nope, 1) FROM t", "SELECT {K}a IN (SELECT 'a'), nope FROM t",
                      "SELECT DISTINCT {N}nope FROM t ORDER BY nope", "SELECT {N}nope UNION SELECT 1, 2", "SELECT 1 UNION {K}SELECT 1, 2 ORDER BY nope", "SELECT 1 UNION SELECT {N}nope, 2",
                      "SELECT 1 UNION {K}SELECT 'a' UNION SELECT nope", "WITH w AS (SELECT {N}nope), w AS (SELECT 1) SELECT 1",
                      "WITH w AS (SELECT 1), {N}w AS (SELECT 1) SELECT nope", "VALUES (1, 'a'), ({K}'b', nope)", "VALUES ({N}nope, 1), (1, 'a')", "VALUES (1, 2), ({K}3)",
                      "SELECT {K}sum(a, nope), nope FROM t", "SELECT {N}nope, foo(1) FROM t", "SELECT {N}nope, foo(1), sum(a) FROM t", "SELECT {K}foo(1), nope FROM t",
                      "SELECT {N}nope, rank() FROM t", "SELECT sum(a) OVER (PARTITION BY {N}nope ORDER BY nope) FROM t", "SELECT sum({K}b) OVER (PARTITION BY nope) FROM t",
                      "SELECT max(a) OVER (ORDER BY {N}nope), sum(nope) OVER () FROM t", "SELECT 1 FROM t, u AS x, {N}u AS t, nope"]:
            self.check(query)

    def test_too_much(self):
        wide = ", ".join([f"t AS t{at}" for at in range(9)])
        self.too_much(f"SELECT 1 FROM {wide}")
        self.too_much(f"SELECT nope FROM {wide}, nope")
        self.check(f"SELECT 1 FROM {wide.replace('t AS t8', '{N}nope')}")
        self.check("SELECT nope FROM " + ", ".join([f"t AS t{at}" for at in range(8)]) + ", {N}nope")
        self.too_much("SELECT 1 FROM " + " JOIN ".join(["t AS t0"] + [f"t AS t{at} ON TRUE" for at in range(1, 9)]) + " JOIN nope ON TRUE")
        # A join is looked at behind its ON.
        self.check("SELECT 1 FROM " + " JOIN ".join(["t AS t0"] + [f"t AS t{at} ON TRUE" for at in range(1, 8)]) + " JOIN t AS t8 ON {N}nope")
        self.too_much("SELECT " + ", ".join(["a"] * 25) + " FROM t")
        self.too_much("SELECT x.nope FROM (SELECT " + ", ".join(["a"] * 25) + " FROM t) x")
        # The query is looked at as a whole, behind its ORDER BY.
        self.check("SELECT DISTINCT " + ", ".join(["a"] * 25) + " FROM t ORDER BY {N}nope")
        self.check("SELECT " + ", ".join(["a"] * 25) + " FROM t UNION {K}SELECT 1")
        self.too_much("SELECT 1 FROM t GROUP BY " + ", ".join(["a"] * 25))
        self.too_much("SELECT a FROM t ORDER BY " + ", ".join([f"a + {at}" for at in range(25)]))
        self.too_much("SELECT EXISTS (SELECT " + ", ".join(["a"] * 25) + " FROM t), nope")
        self.check("SELECT {N}nope, EXISTS (SELECT " + ", ".join(["a"] * 25) + " FROM t)")
        self.too_much("WITH w AS (SELECT " + ", ".join(["a"] * 25) + " FROM t) SELECT nope")
        self.too_much("VALUES (" + ", ".join(["1"] * 25) + ")")

    def test_named_queries_that_grow(self):
        names = ["w0 AS (SELECT a FROM t)"]
        for at in range(1, 14):
            names.append(f"w{at} AS (SELECT x.a FROM w{at - 1} x, w{at - 1} y)")
        began = time.process_time()
        self.too_much("WITH " + ", ".join(names) + " SELECT nope")
        self.assertEqual(bind(parse("WITH " + ", ".join(names[:8]) + " SELECT * FROM w7"), SCHEMAS)[1], ("a",))
        self.assertLess(time.process_time() - began, 5)

    def test_the_bounds_of_levels(self):
        query = "SELECT a FROM t"
        for _ in range(11):
            query = f"SELECT a FROM ({query}) x WHERE TRUE"
        self.assertEqual(bind(parse(query), SCHEMAS)[1], ("a",))
        names = ["w0 AS (SELECT a FROM t)"]
        for at in range(1, 60):
            names.append(f"w{at} AS (SELECT a FROM w{at - 1})")
        self.assertEqual(len(bind(parse("WITH " + ", ".join(names[:57]) + " SELECT a FROM w56"), SCHEMAS)[1]), 1)
        self.too_much("WITH " + ", ".join(names) + " SELECT nope")

    def test_random_queries_with_mistakes(self):
        for seed in range(3000):
            text = generated.query(seed, 0.05)
            try:
                plan, names = bind(parse(text), generated.SCHEMAS)
            except (BadName, BadKind) as e:
                self.assertTrue(0 <= e.at < len(text))
                continue
            except PeristyleError:
                continue
            self.assertEqual(len(kinds(plan, generated.SCHEMAS)), len(names))


if __name__ == "__main__":
    unittest.main()
