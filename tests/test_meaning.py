import random
import time
import unittest

import generated
import naive
from entablature.binder import bind
from entablature.errors import PeristyleError
from entablature.grammar import parse
from entablature.meaning import answer, bag, value_of
from entablature.plan import kinds
from entablature.value import fault

DIV, CAST, MANY, SIZE = fault(1), fault(2), fault(3), fault(4)
FORM = {"t": ("t", (("a", "int", True), ("b", "text", True)), ()), "u": ("u", (("x", "int", True),), ()),
        "none": ("none", (("a", "int", True), ("b", "text", True)), ())}
SCHEMAS = tuple(FORM.values())
T, U, NONE = ("scan", "t"), ("scan", "u"), ("scan", "none")
YES, NO, NULL = ("const", "bool", True), ("const", "bool", False), ("const", "bool", None)
BIG = 10 ** 18 - 1


def tables(t=(), u=()):
    return {"t": (FORM["t"], list(t)), "u": (FORM["u"], [(x,) for x in u]), "none": (FORM["none"], [])}


def col(at):
    return ("col", at)


def num(x):
    return ("const", "int", x)


def op(name, *args):
    return ("op", name, args)


def ints(*xs):
    return ("rows", ("int",), tuple([(x,) for x in xs]))


def bad(code):
    """An expression that is a fault."""
    return {1: op("div", num(1), num(0)), 2: op("number", ("const", "text", "x")), 4: op("add", num(BIG), num(1)),
            3: ("scalar", ints(1, 2))}[code]


def bad_bool(code):
    return op("eq", bad(code), num(1))


def bad_where(at, x, code, other=YES):
    """A condition that is a fault in the rows in which a column has a value."""
    return ("case", ((op("same", col(at), num(x)), bad_bool(code)),), other)


def bad_rows(*codes):
    """A plan with a column of faults."""
    plan = None
    for code in codes:
        part = ("select", (bad(code),), ints(0))
        plan = part if plan is None else ("union", plan, part)
    return plan


def failing(code):
    return ("where", bad_bool(code), ints(0))


class Meaning(unittest.TestCase):

    def check(self, plan, told, t=(), u=()):
        data = tables(t, u)
        kinds(plan, SCHEMAS)
        got = answer(plan, data)
        self.assertEqual(repr(got), repr(told), plan)
        self.assertEqual(naive.answer(plan, data), told)

    def test_scan_and_rows(self):
        self.check(T, [(1, "x"), (1, "x"), (2, None), (None, "a")], [(2, None), (1, "x"), [None, "a"], (1, "x")])
        self.check(T, [])
        self.check(ints(3, None, 1), [(1,), (3,), (None,)])
        self.check(("rows", (), ((), ())), [(), ()])

    def test_where(self):
        t = [(1, "x"), (2, "y"), (None, "z")]
        self.check(("where", op("eq", col(0), num(1)), T), [(1, "x")], t)
        self.check(("where", op("not", op("eq", col(0), num(1))), T), [(2, "y")], t)
        self.check(("where", NULL, T), [], t)
        self.check(("where", bad_where(0, 2, 4), T), SIZE, t)
        self.check(("where", ("case", ((op("eq", col(0), num(1)), bad_bool(4)),), bad_bool(2)), T), CAST, t)
        self.check(("where", bad_bool(1), T), [], [])
        self.check(("where", op("and", NO, bad_bool(1)), T), [], t)
        self.check(("where", op("and", NULL, bad_bool(1)), T), [], t)
        self.check(("where", op("and", YES, bad_bool(1)), T), DIV, t)

    def test_select(self):
        t = [(1, "x"), (2, "y")]
        self.check(("select", (col(1), op("add", col(0), num(1))), T), [("x", 2), ("y", 3)], t)
        self.check(("select", (), T), [(), ()], t)
        # Faults stand as values; only the answer is a fault.
        plan = ("select", (op("div", num(6), op("sub", col(0), num(1))), col(0)), T)
        self.check(plan, DIV, t)
        self.assertEqual(sorted(bag(plan, [], tables(t)), key=repr), [(("fault", 1), 1), (6, 2)])
        self.check(("select", (col(1),), plan), [(1,), (2,)], t)
        self.check(("where", op("eq", col(1), num(2)), plan), [(6, 2)], t)
        self.check(("where", op("isnull", col(0)), plan), DIV, t)
        self.check(bad_rows(4, 2), CAST)

    def test_joins(self):
        t = [(1, "x"), (2, "y"), (2, "z"), (None, "n")]
        u = [2, 2, 3, None]
        eq = op("eq", col(0), col(2))
        inner = [(2, "y", 2), (2, "y", 2), (2, "z", 2), (2, "z", 2)]
        left = [(1, "x", None)] + inner + [(None, "n", None)]
        self.check(("join", "inner", eq, T, U), inner, t, u)
        self.check(("join", "left", eq, T, U), left, t, u)
        self.check(("join", "right", eq, T, U), inner + [(None, None, 3), (None, None, None)], t, u)
        self.check(("join", "full", eq, T, U), [(1, "x", None)] + inner + [(None, "n", None), (None, None, 3), (None, None, None)], t, u)
        self.check(("join", "semi", eq, T, U), [(2, "y"), (2, "z")], t, u)
        self.check(("join", "anti", eq, T, U), [(1, "x"), (None, "n")], t, u)
        self.check(("join", "inner", YES, T, U), [(1, "x", 5)], [(1, "x")], [5])
        for side, told in [("inner", []), ("left", [(1, "x", None)]), ("right", []), ("full", [(1, "x", None)]), ("semi", []), ("anti", [(1, "x")])]:
            self.check(("join", side, YES, T, U), told, [(1, "x")], [])
        for side, told in [("inner", []), ("left", []), ("right", [(None, None, 5)]), ("full", [(None, None, 5)]), ("semi", []), ("anti", [])]:
            self.check(("join", side, YES, T, U), told, [], [5])
        self.check(("join", "semi", YES, T, U), [(1, "x"), (1, "x")], [(1, "x"), (1, "x")], [5, 6])

    def test_joins_that_fail(self):
        for side in ("inner", "left", "right", "full", "semi", "anti"):
            self.check(("join", side, bad_where(2, 6, 4), T, U), SIZE, [(1, "x")], [5, 6])
            self.check(("join", side, bad_where(2, 6, 4, bad_bool(2)), T, U), CAST, [(1, "x")], [5, 6])
            told = [(None, None, 6)] if side in ("right", "full") else []
            self.check(("join", side, bad_bool(1), T, U), told, [], [6])
            self.check(("join", side, YES, failing(4), failing(2)), CAST)
            self.check(("join", side, bad_bool(1), failing(4), ints(1)), SIZE)
            self.check(("join", side, bad_bool(1), ints(1), failing(4)), SIZE)

    def test_groups(self):
        t = [(1, "x"), (2, "x"), (None, "x"), (1, "y"), (1, "y"), (5, None), (7, None)]
        aggs = (("rows", False, None), ("count", False, col(0)), ("count", True, col(0)), ("sum", False, col(0)), ("sum", True, col(0)),
                ("avg", False, col(0)), ("min", False, col(0)), ("max", False, col(0)))
        self.check(("group", (col(1),), aggs, T),
                   [("x", 3, 2, 2, 3, 3, 1, 1, 2), ("y", 2, 2, 1, 2, 1, 1, 1, 1), (None, 2, 2, 2, 12, 12, 6, 5, 7)], t)
        self.check(("group", (), aggs, T), [(0, 0, 0, None, None, None, None, None)])
        self.check(("group", (col(1),), aggs, T), [])
        self.check(("group", (), (), T), [()])
        self.check(("group", (col(0), col(1)), (), T), [(1, "x"), (1, "y"), (2, "x"), (5, None), (7, None), (None, "x")], t)
        small = op("lt", col(0), num(2))
        self.check(("group", (col(1),), (("every", False, small), ("some", False, small), ("min", False, small), ("max", True, small)), T),
                   [("x", False, True, False, True), ("y", True, True, True, True), (None, False, False, False, False)], t)
        self.check(("group", (), (("every", False, small), ("some", False, small)), T), [(None, None)], [(None, "x")])
        self.check(("group", (), (("avg", False, col(0)),), T), [(-2,)], [(-1, "x"), (-2, "y")])
        self.check(("group", (), (("min", False, col(1)), ("max", False, col(1))), T), [("a", "b")], [(1, "b"), (2, "a"), (3, None)])

    def test_groups_with_faults(self):
        self.check(("group", (), (("sum", False, col(0)),), T), SIZE, [(BIG, "x"), (1, "x")])
        self.check(("group", (), (("sum", True, col(0)),), T), [(BIG,)], [(BIG, "x"), (BIG, "x")])
        self.check(("group", (), (("avg", False, col(0)),), T), [(BIG,)], [(BIG, "x"), (BIG, "x")])
        self.check(("group", (), (("sum", False, col(0)),), T), [(BIG,)], [(BIG, "x"), (1, "x"), (-1, "x")])
        self.check(("group", (bad(4),), (), T), SIZE, [(1, "x")])
        self.check(("group", (bad(4), bad(2)), (), T), CAST, [(1, "x")])
        self.check(("group", (bad(4),), (("rows", False, None),), T), [], [])
        # A fault of an arg is the answer of the agg, also of count; other groups do not mind.
        for name in ("count", "sum", "avg", "min", "max"):
            quotient = op("div", num(6), col(0))
            plan = ("group", (col(1),), ((name, False, quotient), ("rows", False, None)), T)
            got = bag(plan, [], tables([(0, "x"), (2, "x"), (None, "x"), (6, "y")]))
            self.assertEqual(sorted(got, key=repr), [("x", DIV, 3), ("y", 1, 1)])
            self.check(("where", op("eq", col(0), ("const", "text", "y")), plan), [("y", 1, 1)], [(0, "x"), (6, "y")])
        self.check(("group", (), (("max", False, col(0)),), bad_rows(4, 2, 3)), CAST)
        self.check(("group", (), (("rows", False, None),), bad_rows(4, 2, 3)), [(3,)])
        self.check(("group", (col(0),), (), bad_rows(4, 2, 3)), CAST)

    def test_sets(self):
        one, two = ints(1, 1, 2, None, None), ints(1, None, 3)
        self.check(("distinct", one), [(1,), (2,), (None,)])
        self.check(("union", one, two), [(1,), (1,), (1,), (2,), (3,), (None,), (None,), (None,)])
        self.check(("except", one, two), [(1,), (2,), (None,)])
        self.check(("except", two, one), [(3,)])
        self.check(("meet", one, two), [(1,), (None,)])
        self.check(("meet", one, one), [(1,), (1,), (2,), (None,), (None,)])
        self.check(("except", one, one), [])
        self.check(("distinct", ("rows", (), ((), ()))), [()])

    def test_sets_with_faults(self):
        self.check(("distinct", bad_rows(4, 2)), CAST)
        for word in ("except", "meet"):
            self.check((word, bad_rows(4), ints(1)), SIZE)
            self.check((word, ints(1), bad_rows(4)), SIZE)
            self.check((word, bad_rows(4), bad_rows(2)), CAST)
        plan = ("union", bad_rows(4), ints(1))
        self.assertEqual(sorted(bag(plan, [], tables()), key=repr), [(SIZE,), (1,)])
        self.check(("where", op("eq", col(0), num(1)), ints(1)), [(1,)])
        for word in ("union", "except", "meet"):
            self.check((word, failing(4), failing(2)), CAST)
            self.check((word, failing(4), ints(1)), SIZE)
            # A failing input goes ahead of faults in the rows of the other one.
            self.check((word, bad_rows(1), failing(4)), SIZE)

    def window(self, fun, t):
        plan = ("window", (fun,), T)
        kinds(plan, SCHEMAS)
        got = answer(plan, tables(t))
        self.assertEqual(got, naive.answer(plan, tables(t)))
        return [row[-1] for row in got]

    def test_windows(self):
        t = [(1, "x"), (1, "y"), (2, "x"), (3, "y"), (None, "x")]
        up, down = ((col(0), False, False),), ((col(0), True, True),)
        part = (col(1),)
        self.assertEqual(self.window(("place", None, (), up, None), t), [1, 2, 3, 4, 5])
        self.assertEqual(self.window(("place", None, (), down, None), t), [4, 5, 3, 2, 1])
        self.assertEqual(self.window(("place", None, part, (), None), t), [1, 1, 2, 2, 3])
        self.assertEqual(self.window(("rank", None, (), up, None), t), [1, 1, 3, 4, 5])
        self.assertEqual(self.window(("dense", None, (), up, None), t), [1, 1, 2, 3, 4])
        self.assertEqual(self.window(("rank", None, (), (), None), t), [1, 1, 1, 1, 1])
        self.assertEqual(self.window(("dense", None, (), (), None), t), [1, 1, 1, 1, 1])
        self.assertEqual(self.window(("lag", col(0), (), up, None), t), [None, 1, 1, 2, 3])
        self.assertEqual(self.window(("lead", col(1), (), (), None), t), ["y", "x", "y", "x", None])
        self.assertEqual(self.window(("lead", col(0), part, (), None), t), [2, 3, None, None, None])
        self.assertEqual(self.window(("sum", col(0), (), up, None), t), [2, 2, 4, 7, 7])
        self.assertEqual(self.window(("sum", col(0), (), down, None), t), [7, 7, 5, 3, None])
        self.assertEqual(self.window(("sum", col(0), (), (), None), t), [7, 7, 7, 7, 7])
        self.assertEqual(self.window(("rows", None, part, (), None), t), [3, 2, 3, 2, 3])
        self.assertEqual(self.window(("count", col(0), part, up, None), t), [1, 1, 2, 2, 2])
        self.assertEqual(self.window(("rows", None, (), up, None), t), [2, 2, 3, 4, 5])
        self.assertEqual(self.window(("min", col(1), (), ((col(1), True, False),), None), t), ["x", "y", "x", "y", "x"])

    def test_frames(self):
        t = [(at, "x") for at in (1, 2, 4, 8)]
        up = ((col(0), False, False),)
        for frame, told in [(("start", "here"), [1, 3, 7, 15]), (("here", "end"), [15, 14, 12, 8]), (("start", "end"), [15] * 4),
                            (("here", "here"), [1, 2, 4, 8]), ((("before", 1), "here"), [1, 3, 6, 12]),
                            ((("before", 1), ("after", 1)), [3, 7, 14, 12]), ((("before", 2), ("before", 1)), [None, 1, 3, 6]),
                            ((("after", 1), ("after", 2)), [6, 12, 8, None]), ((("after", 2), ("after", 1)), [None] * 4),
                            (("end", "start"), [None] * 4), (("end", "end"), [8] * 4), (("start", "start"), [1] * 4),
                            (("here", ("before", 1)), [None] * 4), ((("before", 2000), ("after", 2000)), [15] * 4),
                            ((("after", 0), ("before", 0)), [1, 2, 4, 8]), ((("before", 10 ** 30), ("before", 10 ** 29)), [None] * 4)]:
            edges = tuple([edge if type(edge) is tuple else (edge, 0) for edge in frame])
            self.assertEqual(self.window(("sum", col(0), (), up, edges), t), told, frame)
            self.assertEqual(self.window(("sum", col(0), (), (), edges), t), told, frame)
        self.assertEqual(self.window(("rows", None, (), up, (("after", 3), ("end", 0))), t), [1, 0, 0, 0])
        self.assertEqual(self.window(("sum", col(0), (), up, (("start", 7), ("here", 9))), t), [1, 3, 7, 15])

    def test_frames_count_rows_and_not_peers(self):
        t = [(1, "a"), (1, "b"), (1, "c")]
        up = ((col(0), False, False),)
        self.assertEqual(self.window(("rows", None, (), up, (("start", 0), ("here", 0))), t), [1, 2, 3])
        self.assertEqual(self.window(("rows", None, (), up, None), t), [3, 3, 3])
        self.assertEqual(self.window(("max", col(1), (), up, (("start", 0), ("here", 0))), t), ["a", "b", "c"])

    def test_equal_rows_stand_in_one_order_for_all_funs(self):
        t = [(1, "x")] * 3 + [(2, "x")]
        funs = (("place", None, (), (), None), ("place", None, (), ((col(0), True, True),), None), ("place", None, (col(1),), ((col(1), False, False),), None),
                ("rows", None, (), (), (("start", 0), ("here", 0))))
        self.check(("window", funs, T), [(1, "x", 1, 2, 1, 1), (1, "x", 2, 3, 2, 2), (1, "x", 3, 4, 3, 3), (2, "x", 4, 1, 4, 4)], t)

    def test_windows_with_faults(self):
        t = [(1, "x"), (0, "y")]
        quotient = op("div", num(6), col(0))
        for fun in (("place", None, (quotient,), (), None), ("place", None, (), ((quotient, False, False),), None)):
            self.check(("window", (fun,), T), DIV, t)
            self.check(("window", (fun,), T), [], [])
        # A fault of an arg stands as a value.
        plan = ("window", (("lag", quotient, (), (), None),), T)
        self.assertEqual(sorted(bag(plan, [], tables(t)), key=repr), [(0, "y", None), (1, "x", DIV)])
        plan = ("window", (("sum", quotient, (), ((col(0), True, True),), (("start", 0), ("here", 0))),), T)
        self.assertEqual(sorted(bag(plan, [], tables(t)), key=repr), [(0, "y", DIV), (1, "x", 6)])
        self.check(("window", (), bad_rows(4, 2)), CAST)
        # The least of all: of values in rows, of partitions and of orders.
        self.check(("window", (("place", None, (bad(1),), (), None),), bad_rows(4)), DIV)
        self.check(("window", (("place", None, (bad(4),), ((bad(3), False, False),), None), ("place", None, (bad(2),), (), None)), ints(1)), CAST)
        self.check(("window", (("sum", bad(1), (), (), None),), failing(4)), SIZE)

    def test_top(self):
        t = [(2, "b"), (1, "b"), (None, "a"), (2, "a"), (None, None), (1, "b")]
        def top(order, limit=None, offset=0):
            return ("top", order, limit, offset, T)
        by_a = [(1, "b"), (1, "b"), (2, "a"), (2, "b"), (None, "a"), (None, None)]
        self.check(top(()), by_a, t)
        self.check(top(((col(0), False, False),)), by_a, t)
        self.check(top(((col(0), False, True),)), by_a[4:] + by_a[:4], t)
        self.check(top(((col(0), True, True),)), by_a[4:] + [(2, "a"), (2, "b"), (1, "b"), (1, "b")], t)
        self.check(top(((col(0), True, False),)), [(2, "a"), (2, "b"), (1, "b"), (1, "b"), (None, "a"), (None, None)], t)
        self.check(top(((col(1), True, True), (col(0), True, False))),
                   [(None, None), (2, "b"), (1, "b"), (1, "b"), (2, "a"), (None, "a")], t)
        self.check(top((), 2), by_a[:2], t)
        self.check(top((), 2, 3), by_a[3:5], t)
        self.check(top((), None, 4), by_a[4:], t)
        self.check(top((), 0), [], t)
        self.check(top((), 10 ** 20, 10 ** 20), [], t)
        self.check(top(((op("neg", col(0)), False, False),), 1), [(2, "a")], t)

    def test_top_with_faults(self):
        quotient = op("div", num(6), col(0))
        self.check(("top", ((quotient, False, False),), 0, 0, T), DIV, [(0, "x")])
        self.check(("top", (), 0, 0, bad_rows(4, 2)), CAST)
        self.check(("top", ((bad(1), False, False),), None, 0, bad_rows(4)), DIV)
        self.check(("top", ((bad(4), False, False),), None, 0, bad_rows(1)), DIV)
        self.check(("top", ((bad(1), False, False),), None, 0, failing(4)), SIZE)

    def test_the_order_of_answers(self):
        down = ("top", ((col(0), True, True),), None, 0, ints(1, 3, 2))
        self.check(down, [(3,), (2,), (1,)])
        self.check(("select", (op("neg", col(0)),), ("select", (col(0),), down)), [(-3,), (-2,), (-1,)])
        self.check(("where", YES, down), [(1,), (2,), (3,)])
        self.check(("distinct", down), [(1,), (2,), (3,)])
        self.check(("union", down, ints()), [(1,), (2,), (3,)])
        self.check(("select", (col(0),), ("where", YES, down)), [(1,), (2,), (3,)])

    def test_expressions(self):
        data = tables([(1, "x"), (2, "y")], [1, 2, None])
        def check(expr, told, row=(), outers=()):
            got = value_of(expr, row, list(outers), data)
            self.assertEqual(repr(got), repr(told), expr)
            self.assertEqual(naive.value(expr, row, list(outers), data), told)
        check(col(1), 6, (5, 6))
        check(("outer", 1, 0), 7, (5,), [(7,), (8, 9)])
        check(("outer", 2, 1), 9, (5,), [(7,), (8, 9)])
        check(num(None), None)
        check(("case", ((NULL, num(1)), (NO, num(2)), (YES, num(3)), (YES, num(4))), num(5)), 3)
        check(("case", ((NULL, num(1)), (NO, num(2))), num(5)), 5)
        check(("case", ((NO, num(1)), (bad_bool(1), num(2)), (YES, num(3))), num(5)), DIV)
        check(("case", ((YES, num(1)), (bad_bool(1), num(2))), num(5)), 1)
        check(("case", ((YES, num(1)),), bad(4)), 1)
        check(("case", ((NO, bad(1)),), bad(4)), SIZE)
        check(("scalar", ints(5)), 5)
        check(("scalar", ints()), None)
        check(("scalar", ints(None)), None)
        check(("scalar", ints(5, 5)), MANY)
        check(("scalar", bad_rows(4)), SIZE)
        check(("scalar", bad_rows(4, 4)), MANY)
        check(("scalar", failing(4)), SIZE)
        check(("exists", ints(None)), True)
        check(("exists", ints()), False)
        check(("exists", bad_rows(4)), True)
        check(("exists", failing(2)), CAST)
        check(("in", num(1), ints(2, 1)), True)
        check(("in", num(1), ints(2, 3)), False)
        check(("in", num(1), ints(2, None)), None)
        check(("in", num(1), ints(1, None)), True)
        check(("in", num(None), ints()), False)
        check(("in", num(None), ints(1)), None)
        check(("in", bad(1), ints()), False)
        check(("in", bad(1), ints(1)), DIV)
        check(("in", bad(1), ints(None)), None)
        check(("in", bad(1), ints(None, 2)), None)
        check(("in", num(1), bad_rows(4)), SIZE)
        check(("in", bad(2), bad_rows(4)), CAST)
        check(("in", num(1), ("union", ints(1), bad_rows(4))), True)
        check(("in", num(1), ("union", ints(None), bad_rows(4))), None)
        check(("in", num(1), ("union", ints(2), bad_rows(4, 2))), CAST)
        check(("in", num(1), ("union", ints(1), failing(4))), SIZE)
        check(("in", num(None), failing(4)), SIZE)

    def test_outer_columns(self):
        inner = ("group", (), (("sum", False, op("add", col(0), ("outer", 1, 0))),), U)
        self.check(("select", (col(0), ("scalar", inner)), T), [(1, 5), (2, 7), (None, None)], [(1, "x"), (2, "x"), (None, "y")], [1, 2])
        deep = ("where", ("exists", ("where", op("eq", ("outer", 2, 0), ("outer", 1, 0)), ints(0))), U)
        self.check(("where", ("exists", deep), T), [(2, "x")], [(1, "x"), (2, "x")], [2, 3])
        for plan in (("join", "left", op("eq", col(0), ("outer", 1, 0)), U, U), ("top", ((op("mul", col(0), ("outer", 1, 0)), True, True),), 1, 0, U),
                     ("window", (("rank", None, (("outer", 1, 0),), (), None),), U), ("group", (("outer", 1, 0),), (("rows", False, None),), U)):
            plan = ("where", ("exists", ("where", op("eq", col(0), ("outer", 1, 0)), plan)), T)
            t, u = [(1, "x"), (2, "x"), (-3, "y"), (None, "z")], [1, 2, -3, None]
            self.check(plan, naive.answer(plan, tables(t, u)), t, u)
        self.assertEqual(bag(("where", op("eq", col(0), ("outer", 2, 0)), U), [(9,), (2,)], tables((), [1, 2])), [(2,)])

    def test_what_is_handed_in_and_told_is_apart(self):
        rows = [[1, "x"]]
        data = {"t": (FORM["t"], rows)}
        got = answer(T, data)
        got.append(None)
        self.assertEqual(answer(T, data), [(1, "x")])
        told = bag(T, [], data)
        rows[0][0] = 5
        self.assertEqual(told, [(1, "x")])
        outers = [(1,)]
        row = [2]
        value_of(("exists", ("where", op("eq", ("outer", 1, 0), ("outer", 2, 0)), T)), row, outers, data)
        self.assertEqual((outers, row), ([(1,)], [2]))
        plan = ints(1, 2)
        bag(plan, [], data).append(5)
        self.assertEqual(plan, ints(1, 2))

    def test_random_queries_against_another_reading(self):
        seen = {"fault": 0, "rows": 0}
        for seed in range(3500):
            try:
                plan, _ = bind(parse(generated.query(seed)), generated.SCHEMAS)
            except PeristyleError:
                continue
            for data in (generated.tables(seed), generated.tables(seed + 1)):
                got = answer(plan, data)
                self.assertEqual(got, naive.answer(plan, data), generated.query(seed))
                seen["fault" if type(got) is tuple else "rows"] += 1
        self.assertGreater(min(seen.values()), 100)

    def test_nested_queries_are_quick(self):
        query = "SELECT count(*) FROM u AS x0"
        for at in range(1, 10):
            query = f"SELECT count(*) FROM u AS x{at} WHERE ({query}) > 0"
        schemas = (FORM["u"],)
        plan, _ = bind(parse(query), schemas)
        data = {"u": (FORM["u"], [(at,) for at in range(30)])}
        began = time.process_time()
        self.assertEqual(answer(plan, data), [(30,)])
        self.assertLess(time.process_time() - began, 5)

    def test_many_little_plans_are_quick(self):
        plan, _ = bind(parse("SELECT b, sum(a) FROM t WHERE a > 0 GROUP BY b ORDER BY b"), SCHEMAS)
        data = tables([(1, "x"), (2, "x"), (None, "y")])
        began = time.process_time()
        for _ in range(5000):
            answer(plan, data)
        self.assertLess(time.process_time() - began, 10)

    def test_random_windows(self):
        rnd = random.Random(7)
        words = ("start", "before", "here", "after", "end")
        for _ in range(400):
            t = [(rnd.choice((0, 1, 2, None)), rnd.choice(("x", "y", None))) for _ in range(rnd.randrange(7))]
            funs = []
            for _ in range(rnd.randrange(1, 4)):
                name = rnd.choice(("place", "rank", "dense", "lag", "lead", "rows", "sum", "count", "min", "avg"))
                arg = None if name in ("place", "rank", "dense", "rows") else rnd.choice((col(0), op("div", num(2), col(0))))
                order = tuple([(rnd.choice((col(0), col(1))), rnd.random() < 0.5, rnd.random() < 0.5) for _ in range(rnd.randrange(3))])
                partition = rnd.choice(((), (col(1),), (col(0),)))
                frame = None
                if name in ("rows", "sum", "count", "min", "avg") and rnd.random() < 0.6:
                    frame = ((rnd.choice(words), rnd.randrange(3)), (rnd.choice(words), rnd.randrange(3)))
                funs.append((name, arg, partition, order, frame))
            plan = ("window", tuple(funs), T)
            kinds(plan, SCHEMAS)
            data = tables(t)
            self.assertEqual(sorted(bag(plan, [], data), key=repr), sorted(naive.bag(plan, [], data), key=repr))


if __name__ == "__main__":
    unittest.main()
