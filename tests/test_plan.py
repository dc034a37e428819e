import random
import time
import unittest

import generated
from entablature.binder import bind
from entablature.errors import BadKind, NoSuch, PeristyleError, TooMuch
from entablature.grammar import parse
from entablature.meaning import value_of
from entablature.plan import joined, kinds, moved, nodes, parts, put_in, used

SCHEMAS = (("t", (("a", "int", False), ("b", "text", True), ("c", "bool", True)), ((0,),)),
           ("u", (("x", "int", True),), ()))
T = ("scan", "t")
U = ("scan", "u")
ONE = ("const", "int", 1)
YES = ("const", "bool", True)
COL = ("col", 0)
ROW = ("rows", (), ((),))


def col(at):
    return ("col", at)


def eq(a, b):
    return ("op", "eq", (a, b))


def fun(name, arg, partition=(), order=(), frame=None):
    return (name, arg, partition, order, frame)


class Right(unittest.TestCase):

    def test_kinds(self):
        for plan, told in [
                (T, "int text bool"), (("rows", ("int", "text"), ((1, None), (None, "a"))), "int text"), (ROW, ""),
                (("rows", ("int",), ()), "int"), (("where", ("col", 2), T), "int text bool"),
                (("select", (col(1), ONE, eq(col(0), ONE)), T), "text int bool"), (("select", (), T), ""),
                (("join", "inner", eq(col(0), col(3)), T, U), "int text bool int"),
                (("join", "full", YES, T, T), "int text bool int text bool"), (("join", "left", col(2), T, U), "int text bool int"),
                (("join", "right", YES, U, T), "int int text bool"), (("join", "semi", eq(col(0), col(3)), T, U), "int text bool"),
                (("join", "anti", eq(col(0), col(3)), T, U), "int text bool"),
                (("group", (col(1),), (("rows", False, None), ("count", True, col(1)), ("sum", False, COL), ("avg", True, COL),
                                       ("min", False, col(1)), ("max", False, col(2)), ("every", False, col(2)),
                                       ("some", True, col(2))), T), "text int int int int text bool bool bool"),
                (("group", (), (), T), ""), (("distinct", T), "int text bool"), (("union", T, T), "int text bool"),
                (("except", U, U), "int"), (("meet", U, ("select", (COL,), T)), "int"),
                (("window", (fun("place", None), fun("rank", None, (COL,)), fun("dense", None, (), ((COL, True, False),)),
                             fun("lag", col(1)), fun("lead", col(2)), fun("rows", None), fun("sum", COL),
                             fun("max", col(1), (), (), (("end", 3), ("start", 0))),
                             fun("every", col(2), (), (), (("before", 5), ("after", 10 ** 30)))), T),
                 "int text bool int int int text bool int int text bool"),
                (("window", (), T), "int text bool"), (("top", (), None, 0, T), "int text bool"),
                (("top", ((col(1), True, True),), 0, 10 ** 20, T), "int text bool"),
                (("select", (("case", ((col(2), col(1)),), ("const", "text", None)),), T), "text"),
                (("select", (("scalar", U), ("exists", T), ("in", COL, U), ("exists", ("select", (), T))), T), "int bool bool bool"),
                (("select", (("scalar", ("select", (("outer", 1, 1),), U)),), T), "text"),
                (("where", ("exists", ("where", ("exists", ("where", eq(("outer", 2, 0), ("outer", 1, 0)), U)), U)), T),
                 "int text bool"),
                (("rows", ("bool",) * 24, ()), " ".join(["bool"] * 24)),
                (("rows", ("int",), tuple([(at,) for at in range(2000)])), "int")]:
            self.assertEqual(kinds(plan, SCHEMAS), tuple(told.split()), plan)

    def refused(self, error, plan):
        with self.assertRaises(error) as caught:
            kinds(plan, SCHEMAS)
        if error is BadKind:
            self.assertEqual(caught.exception.at, -1)

    def test_wrong_plans(self):
        for plan in [
                (), ("scan",), ("scan", 5), ("scan", None), ("scan", ("t",)), ("scan", "t", 1), ("foo", T), (5, T), ((), T), ("t",),
                ("where", YES), ("where", YES, T, T), ("where", ONE, T), ("where", col(3), T), ("where", YES, "t"),
                ("where", YES, 5), ("where", None, T), ("where", T, T), ("select", COL, T), ("select", (col(3),), T),
                ("select", (col(-1),), T), ("select", (("col", True),), T), ("select", (("col",),), T), ("select", (("col", 0, 0),), T),
                ("select", (("col", "a"),), T), ("select", None, T), ("select", (T,), T), ("select", ((),), T), ("select", ("col",), T),
                ("select", (("outer", 1, 0),), T), ("select", (("scalar", ("select", (("outer", 0, 0),), U)),), T),
                ("select", (("scalar", ("select", (("outer", 2, 0),), U)),), T),
                ("select", (("scalar", ("select", (("outer", 1, 3),), U)),), T),
                ("select", (("scalar", ("select", (("outer", True, 0),), U)),), T), ("select", (("scalar", T),), T),
                ("select", (("scalar", ROW),), T), ("select", (("scalar", COL),), T), ("select", (("in", col(1), U),), T),
                ("select", (("in", COL, T),), T), ("select", (("in", COL),), T), ("select", (("exists", COL),), T),
                ("select", (("const", "int", "a"),), T), ("select", (("const", "int", True),), T), ("select", (("const", "int", 10 ** 18),), T),
                ("select", (("const", "float", None),), T), ("select", (("const", None, None),), T),
                ("select", (("const", "int", ("fault", 1)),), T), ("select", (("const", "text", "x" * 201),), T),
                ("select", (("op", "add", (COL, col(1))),), T), ("select", (("op", "add", (COL,)),), T), ("select", (("op", "foo", (COL,)),), T),
                ("select", (("op", "add", COL),), T), ("select", (("op", ("add",), (COL, COL)),), T), ("select", (("op", "not"),), T),
                ("select", (("case", (), COL),), T), ("select", (("case", ((COL, COL),), COL),), T),
                ("select", (("case", ((YES, col(1)),), COL),), T), ("select", (("case", ((YES,),), COL),), T),
                ("select", (("case", (YES, COL), COL),), T), ("select", (("case", ((YES, COL),)),), T),
                ("join", "cross", YES, T, U), ("join", "inner", ONE, T, U), ("join", "inner", col(4), T, U), ("join", "inner", T, U),
                ("join", None, YES, T, U), ("join", ("inner",), YES, T, U), ("join", "semi", ("col", 4), T, U),
                ("group", COL, (), T), ("group", (), (("rows", True, None),), T), ("group", (), (("rows", False, COL),), T),
                ("group", (), (("rows", 0, None),), T), ("group", (), (("count", False, None),), T), ("group", (), (("sum", False, col(1)),), T),
                ("group", (), (("avg", False, col(2)),), T), ("group", (), (("every", False, COL),), T), ("group", (), (("foo", False, COL),), T),
                ("group", (), (("count", None, COL),), T), ("group", (), (("count", 1, COL),), T), ("group", (), (("count", COL),), T),
                ("group", (), (("place", False, None),), T), ("group", (), (None,), T), ("group", (), ((("x",), False, COL),), T),
                ("group", (), (("rows", False, ("scan", "nope")),), T), ("group", (), T), ("distinct",), ("distinct", COL),
                ("union", T, U), ("union", T), ("except", T, U), ("meet", U, ("select", (col(1),), T)),
                ("window", (fun("rows", COL),), T), ("window", (fun("place", COL),), T), ("window", (fun("lag", None),), T),
                ("window", (fun("sum", None),), T), ("window", (fun("sum", col(1)),), T), ("window", (fun("foo", COL),), T),
                ("window", (fun("place", None, (), (), (("start", 0), ("end", 0))),), T),
                ("window", (fun("rank", None, (), (), (("start", 0), ("end", 0))),), T),
                ("window", (fun("dense", None, (), (), (("start", 0), ("end", 0))),), T),
                ("window", (fun("lag", COL, (), (), (("start", 0), ("end", 0))),), T),
                ("window", (fun("lead", COL, (), (), (("start", 0), ("end", 0))),), T),
                ("window", (fun("sum", COL, (), (), ()),), T), ("window", (fun("sum", COL, (), (), (("start", 0),)),), T),
                ("window", (fun("sum", COL, (), (), (("start", -1), ("end", 0))),), T),
                ("window", (fun("sum", COL, (), (), (("foo", 0), ("end", 0))),), T),
                ("window", (fun("sum", COL, (), (), (("start", True), ("end", 0))),), T),
                ("window", (fun("sum", COL, (), (), (("start",), ("end", 0))),), T), ("window", (fun("sum", COL, COL),), T),
                ("window", (fun("sum", COL, (col(3),)),), T), ("window", (fun("sum", COL, (), ((COL, True),)),), T),
                ("window", (fun("sum", COL, (), ((COL, True, 0),)),), T), ("window", (fun("sum", COL, (), (COL,)),), T),
                ("window", (("sum", COL, (), ()),), T), ("window", (None,), T), ("window", T),
                ("top", (), None, T), ("top", (), -1, 0, T), ("top", (), None, -1, T), ("top", (), None, None, T), ("top", (), True, 0, T),
                ("top", (), None, False, T), ("top", ((COL, False),), None, 0, T), ("top", ((COL, 0, False),), None, 0, T),
                ("top", COL, None, 0, T), ("top", ((col(3), False, False),), None, 0, T), ("top", (), "1", 0, T),
                ("rows", ("int",)), ("rows", ("int",), ((1, 2),)), ("rows", ("int",), (("a",),)), ("rows", ("float",), ()),
                ("rows", ("int",), (1,)), ("rows", "int", ()), ("rows", ("int",), None), ("rows", (("int",),), ()),
                ("rows", ("int",), ((("fault", 1),),)), ("rows", ("int",), ((True,),)), ("rows", ("bool",), ((1,),)),
                ("rows", ("int",), tuple([(at,) for at in range(2001)])), ("rows",), ("rows", (), (), ()), True, None, 5, "scan"]:
            self.refused(BadKind, plan)

    def test_tables_that_are_not_there_go_first(self):
        nope = ("scan", "nope")
        for plan in [nope, ("where", ONE, nope), ("select", (col(9),), nope), ("union", T, nope), ("foo", nope),
                     ("select", (("scalar", nope),), T), ("where", None, ("join", 5, 6, nope, 7)), ("top", (), None, -1, nope),
                     ("window", (fun("rows", None, (("scalar", nope),)),), T), ("group", (), (("sum", False, ("scalar", nope)),), T),
                     ("union", ("rows", ("float",), ()), nope)]:
            self.refused(NoSuch, plan)
        self.refused(BadKind, ("rows", (nope,), ()))
        self.refused(NoSuch, ("scan", "T"))
        with self.assertRaises(NoSuch):
            kinds(T, ())

    def test_bounds(self):
        self.assertEqual(len(kinds(("select", (COL,) * 24, T), SCHEMAS)), 24)
        self.refused(TooMuch, ("select", (COL,) * 25, T))
        self.refused(TooMuch, ("select", (COL,), ("select", (COL,) * 25, T)))
        self.refused(TooMuch, ("rows", ("int",) * 25, ()))
        self.refused(TooMuch, ("group", (COL,) * 12, (("rows", False, None),) * 13, T))
        self.refused(TooMuch, ("window", (fun("place", None),) * 22, T))
        eight = ("rows", ("int",) * 8, ())
        wide = ("join", "inner", YES, ("join", "inner", YES, eight, eight), eight)
        self.assertEqual(len(kinds(wide, ())), 24)
        self.assertEqual(len(kinds(("join", "semi", YES, wide, wide), ())), 24)
        self.assertEqual(len(kinds(("where", ("exists", wide), wide), ())), 24)
        self.refused(TooMuch, ("join", "left", YES, wide, ("rows", ("int",), ())))
        self.refused(TooMuch, ("where", ("exists", ("join", "left", YES, wide, eight)), U))

    def test_levels(self):
        plan = T
        for _ in range(59):
            plan = ("distinct", plan)
        self.assertEqual(len(kinds(plan, SCHEMAS)), 3)
        self.refused(TooMuch, ("distinct", plan))
        self.refused(BadKind, ("where", ONE, plan))
        expr = COL
        for _ in range(58):
            expr = ("op", "neg", (expr,))
        self.assertEqual(kinds(("select", (expr,), T), SCHEMAS), ("int",))
        self.refused(TooMuch, ("select", (("op", "neg", (expr,)),), T))
        self.refused(TooMuch, ("select", (expr,), ("select", (("op", "neg", (expr,)),), T)))
        for _ in range(30):
            plan = ("distinct", plan)
        self.refused(TooMuch, plan)
        self.refused(BadKind, ("union", plan, U))
        for _ in range(9):
            plan = ("distinct", plan)
        # 100 words of plans in one another are looked at, 101 are not.
        self.refused(BadKind, ("union", plan, U))
        self.refused(TooMuch, ("union", ("distinct", plan), U))
        for _ in range(39):
            expr = ("op", "neg", (expr,))
        self.refused(BadKind, ("select", (("op", "not", (expr,)),), U))
        self.refused(TooMuch, ("select", (("op", "not", (("op", "neg", (expr,)),)),), U))

    def test_levels_of_plans_in_expressions(self):
        for wrap in (lambda plan: ("where", ("exists", plan), U), lambda plan: ("select", (("scalar", plan),), U),
                     lambda plan: ("where", ("in", COL, plan), U)):
            plan = U
            for _ in range(29):
                plan = wrap(plan)
            self.assertEqual(len(kinds(("distinct", plan), SCHEMAS)), 1)
            self.refused(TooMuch, ("distinct", ("distinct", plan)))
            self.refused(TooMuch, wrap(plan))
        for plan in (("group", (("op", "neg", (COL,)),), (), U), ("group", (), (("sum", False, ("op", "neg", (COL,))),), U),
                     ("window", (fun("sum", ("op", "neg", (COL,))),), U), ("window", (fun("rank", None, (("op", "neg", (COL,)),)),), U),
                     ("window", (fun("rank", None, (), ((("op", "neg", (COL,)), False, False),)),), U),
                     ("top", ((("op", "neg", (COL,)), False, False),), None, 0, U), ("join", "semi", ("op", "isnull", (COL,)), U, U)):
            for _ in range(57):
                plan = ("distinct", plan)
            self.assertGreater(len(kinds(plan, SCHEMAS)), 0)
            self.refused(TooMuch, ("distinct", plan))

    def test_nodes(self):
        self.assertEqual(nodes(T), 1)
        self.assertEqual(nodes(("select", (eq(COL, ONE), COL), T)), 6)
        self.assertEqual(nodes(("group", (COL,), (("rows", False, None), ("sum", False, COL)), T)), 4)
        self.assertEqual(nodes(("window", (fun("sum", COL, (COL,), ((COL, True, True),), (("start", 0), ("end", 0))),), T)), 5)
        self.assertEqual(nodes(("where", ("in", COL, ("where", ("exists", T), U)), T)), 8)
        self.assertEqual(nodes(("top", ((COL, False, False),), None, 0, ("join", "inner", YES, T, U))), 6)
        self.assertEqual(nodes(("select", (("case", ((YES, COL), (YES, COL)), COL),), T)), 8)
        self.assertEqual(nodes(("rows", ("int",), ((1,), (2,)))), 1)
        self.assertEqual(nodes(("rows", (), ())), 1)

    def test_2000_nodes(self):
        def plan_of(many):
            """A plan of so many nodes."""
            expr = ONE
            for _ in range(9):
                expr = ("op", "add", (expr, expr))
            # 1023 nodes; the rest are selects of constants.
            rest = many - 2 - nodes(("select", (expr,), ROW)) + 1
            below = ("select", (expr,), ROW)
            while rest > 1:
                extra = min(20, rest - 1)
                below = ("select", (COL,) * extra, below)
                rest -= extra + 1
            return ("distinct", below) if rest == 1 else below
        for many in (1990, 1999, 2000, 2001, 2010):
            plan = plan_of(many)
            plan = ("distinct", plan) if nodes(plan) < many else plan
            self.assertEqual(nodes(plan), many)
            if many <= 2000:
                self.assertGreater(len(kinds(plan, ())), 0)
            else:
                self.refused(TooMuch, plan)

    def test_what_nobody_would_write(self):
        deep = ()
        for _ in range(20000):
            deep = (deep,)
        self.refused(BadKind, deep)
        self.refused(BadKind, ("where", deep, T))
        self.refused(BadKind, ("select", (("const", "int", deep),), T))
        self.refused(BadKind, ("rows", ("int",), deep))
        self.refused(BadKind, ("group", (), (("rows", False, deep),), T))
        self.refused(BadKind, ("window", (fun("rows", None, (deep,)),), T))
        words = T
        for _ in range(20000):
            words = ("distinct", words)
        self.refused(TooMuch, words)
        self.refused(TooMuch, ("window", (fun("rows", None, (words,)),), T))
        self.refused(TooMuch, tuple([()] * 50000))
        self.refused(BadKind, tuple([()] * 49999))
        deep = COL
        for _ in range(20000):
            deep = ("op", "neg", (deep,))
        self.refused(TooMuch, ("select", (deep,), T))
        self.refused(BadKind, tuple([()] * 40000))
        self.refused(BadKind, ("rows", ("int",), tuple([()] * 60000)))

    def test_large_plans_are_quick(self):
        expr = ONE
        for _ in range(9):
            expr = ("op", "add", (expr, expr))
        plan = ("select", (expr,), T)
        began = time.process_time()
        for _ in range(100):
            kinds(plan, SCHEMAS)
            nodes(plan)
            put_in(expr, [COL])
        self.assertLess(time.process_time() - began, 10)


class Columns(unittest.TestCase):

    def test_used(self):
        self.assertEqual(used(ONE), ())
        self.assertEqual(used(eq(col(3), ("op", "add", (col(1), col(3))))), (1, 3))
        self.assertEqual(used(("case", ((col(9), col(2)),), col(0))), (0, 2, 9))
        self.assertEqual(used(("outer", 1, 5)), ())
        inner = ("where", eq(("outer", 1, 4), ("outer", 2, 6)), ("select", (col(7),), T))
        self.assertEqual(used(("exists", inner)), (4,))
        self.assertEqual(used(("in", col(8), ("select", (("scalar", ("select", (("outer", 2, 3), ("outer", 1, 1)), T)),), T))), (3, 8))

    def test_put_in(self):
        e = [("op", "neg", (col(5),)), ("outer", 2, 7), ONE]
        self.assertEqual(put_in(eq(col(0), col(1)), e), eq(e[0], e[1]))
        self.assertEqual(put_in(("outer", 1, 0), e), ("outer", 1, 0))
        plan = ("where", eq(("outer", 1, 0), ("outer", 1, 1)), ("select", (col(0), ("outer", 2, 0)), T))
        told = ("where", eq(("op", "neg", (("outer", 1, 5),)), ("outer", 3, 7)), ("select", (col(0), ("outer", 2, 0)), T))
        self.assertEqual(put_in(("exists", plan), e), ("exists", told))
        self.assertEqual(put_in(("in", col(2), plan), e), ("in", ONE, told))
        # A plan within a plan: the row of the expression is two levels out there.
        inner = ("exists", ("where", eq(("outer", 2, 0), ("outer", 1, 0)), T))
        self.assertEqual(put_in(("exists", ("where", inner, T)), e),
                         ("exists", ("where", ("exists", ("where", eq(("op", "neg", (("outer", 2, 5),)), ("outer", 1, 0)), T)), T)))
        # What is put in has a plan of its own.
        own = ("scalar", ("where", eq(("outer", 1, 3), ("outer", 2, 4)), ("where", ("exists", ("where", eq(("outer", 2, 8), ("outer", 1, 9)), U)), T)))
        far = ("scalar", ("where", eq(("outer", 2, 3), ("outer", 3, 4)), ("where", ("exists", ("where", eq(("outer", 3, 8), ("outer", 1, 9)), U)), T)))
        self.assertEqual(put_in(col(0), [own]), own)
        self.assertEqual(put_in(("exists", ("where", eq(("outer", 1, 0), ONE), T)), [own]), ("exists", ("where", eq(far, ONE), T)))

    def test_put_in_everywhere(self):
        e = [col(9)]
        outer = ("outer", 1, 0)
        plans = [("where", outer, T), ("select", (outer, ONE), T), ("join", "semi", outer, T, U), ("group", (outer,), (("rows", False, None), ("sum", True, outer)), T),
                 ("distinct", ("where", outer, T)), ("union", ("where", outer, T), ("where", outer, U)),
                 ("window", (fun("rows", None, (outer,)), fun("sum", outer, (ONE, outer), ((outer, True, False), (ONE, False, True)), (("start", 0), ("end", 0)))), T),
                 ("top", ((outer, True, False), (ONE, False, False)), 3, 4, T), ("rows", ("int",), ((1,),)), T]
        for plan in plans:
            want = eval(repr(plan).replace(repr(outer), repr(("outer", 1, 9))))
            self.assertEqual(put_in(("exists", plan), e), ("exists", want))
            self.assertEqual(put_in(("case", ((("exists", plan), col(0)),), col(0)), e), ("case", ((("exists", want), col(9)),), col(9)))

    def test_put_in_keeps_the_meaning(self):
        rnd = random.Random(2)
        tables = {"u": (SCHEMAS[1], [(1,), (2,), (None,)])}
        sub = ("scalar", ("group", (), (("sum", False, ("op", "add", (col(0), ("outer", 1, 1)))),), ("where", eq(col(0), ("outer", 1, 0)), U)))
        for _ in range(300):
            exprs = [rnd.choice([col(0), col(1), ONE, ("outer", 1, 0), ("op", "add", (col(0), ("outer", 1, 0))), sub]) for _ in range(2)]
            expr = rnd.choice([("op", "add", (col(0), col(1))), sub, ("op", "mul", (sub, col(1)))])
            row = (rnd.randrange(3), rnd.randrange(3))
            outers = [(rnd.randrange(3), 0)]
            mid = tuple([value_of(part, row, outers, tables) for part in exprs])
            self.assertEqual(value_of(put_in(expr, exprs), row, outers, tables), value_of(expr, mid, outers, tables))

    def test_moved(self):
        self.assertEqual(moved(eq(col(0), col(2)), [5, 6, 7]), eq(col(5), col(7)))
        self.assertEqual(moved(("exists", ("where", ("outer", 1, 1), T)), (4, 3)), ("exists", ("where", ("outer", 1, 3), T)))
        self.assertEqual(moved(ONE, []), ONE)

    def test_parts_and_joined(self):
        a, b, c, d = [("col", at) for at in range(4)]
        both = lambda x, y: ("op", "and", (x, y))
        self.assertEqual(parts(a), [a])
        self.assertEqual(parts(both(both(a, b), both(c, d))), [a, b, c, d])
        self.assertEqual(parts(("op", "or", (both(a, b), c))), [("op", "or", (both(a, b), c))])
        self.assertEqual(joined([]), ("const", "bool", True))
        self.assertEqual(joined([a]), a)
        self.assertEqual(joined([a, b, c]), both(both(a, b), c))
        self.assertEqual(joined((a, b)), both(a, b))

    def test_plans_of_random_queries_are_right(self):
        for seed in range(2000):
            try:
                plan, names = bind(parse(generated.query(seed)), generated.SCHEMAS)
            except PeristyleError:
                continue
            self.assertEqual(len(kinds(plan, generated.SCHEMAS)), len(names))


if __name__ == "__main__":
    unittest.main()
