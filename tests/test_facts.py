"""What is known of plans: told against answers on drawn tables, and each sentence that makes the facts bold."""

import random
import unittest

import plans
from entablature.checker import takes
from entablature.facts import facts, safe
from entablature.meaning import bag, value_of
from entablature.rules import found
from entablature.value import fault, is_fault
from short import YES, col, eq, num, op

SCHEMAS = plans.SCHEMAS
T, U, V, W = ("scan", "t"), ("scan", "u"), ("scan", "v"), ("scan", "w")


DIVIDED = op("div", num(1), col(0))
FAULTY = ("select", (DIVIDED, col(0)), T)


def nulls(plan):
    return facts(plan, SCHEMAS)[0]


def faults(plan):
    return facts(plan, SCHEMAS)[1]


def fails(plan):
    return facts(plan, SCHEMAS)[2]


def keys(plan):
    return facts(plan, SCHEMAS)[3]


class Truth(unittest.TestCase):

    def check(self, plan, outers, tables, told, why):
        may_null, may_fault, may_fail, unique = told
        rows = bag(plan, outers, tables)
        if is_fault(rows):
            self.assertTrue(may_fail, why)
            return
        for row in rows:
            for x, null, bad in zip(row, may_null, may_fault):
                self.assertTrue(null or x is not None, why)
                self.assertTrue(bad or not is_fault(x), why)
        for key in unique:
            self.assertEqual(tuple(sorted(key)), key)
            seen = [tuple([row[at] for at in key]) for row in rows]
            self.assertEqual(len(seen), len(set(seen)), (why, key))

    def test_facts_hold_on_drawn_tables(self):
        for seed in range(1500):
            plan = plans.plan(seed) if seed % 3 else plans.bait(seed)
            told = facts(plan, SCHEMAS)
            for at in range(3):
                self.check(plan, [], plans.tables(f"{seed} {at}"), told, (seed, at))

    def test_facts_hold_for_any_rows_around(self):
        for seed in range(600):
            rnd = random.Random(seed)
            outers = [("int", "text", "bool"), ("int", "int")]
            maker = plans.Plans(f"outers {seed}")
            plan = maker.plan(2, outers)
            told = facts(plan, SCHEMAS)
            for at in range(4):
                rows = []
                for row in outers:
                    rows.append(tuple([fault(rnd.choice((1, 2, 4))) if rnd.random() < 0.3 else plans.value(rnd, kind)
                                       for kind in row]))
                self.check(plan, rows, plans.tables(f"{seed} {at}"), told, (seed, at))

    def test_what_is_told_may_be_changed(self):
        told = facts(T, SCHEMAS)
        told[3].append((1,))
        self.assertEqual(keys(T), [(0,)])
        self.assertEqual([type(part) for part in told], [tuple, tuple, bool, list])


class Bold(unittest.TestCase):

    def test_scans_and_rows(self):
        self.assertEqual(facts(T, SCHEMAS), ((False, True, True), (False,) * 3, False, [(0,)]))
        self.assertEqual(facts(W, SCHEMAS), ((False,) * 3, (False,) * 3, False, [(0, 1), (1, 2)]))
        rows = ("rows", ("int", "text"), ((1, None), (2, "a")))
        self.assertEqual(facts(rows, SCHEMAS)[:3], ((False, True), (False, False), False))
        self.assertEqual(nulls(("rows", ("int",), ())), (False,))

    def test_expressions_that_are_never_faults(self):
        exprs = (num(3), col(0), op("neg", col(0)), op("lt", col(0), num(1)), op("upper", col(1)),
                 op("coalesce", col(1), col(1)), ("case", ((col(2), col(0)),), num(1)),
                 op("and", col(2), op("isnull", col(1))), op("part", col(1), col(0), num(2)), op("words", col(0)))
        self.assertEqual(faults(("select", exprs, T)), (False,) * len(exprs))
        for name in ("add", "sub", "mul", "div", "mod"):
            self.assertEqual(faults(("select", (op(name, col(0), num(1)),), T)), (True,))
        exprs = (op("cat", col(1), col(1)), op("number", col(1)), op("neg", op("add", col(0), col(0))),
                 ("case", ((op("eq", DIVIDED, num(1)), col(0)),), num(1)), ("case", ((col(2), DIVIDED),), num(1)),
                 ("case", ((col(2), num(1)),), DIVIDED))
        self.assertEqual(faults(("select", exprs, T)), (True,) * len(exprs))
        self.assertEqual(faults(("select", (col(0), col(1)), FAULTY)), (True, False))

    def test_expressions_with_plans(self):
        one = ("group", (), (("max", False, col(0)),), U)
        exprs = (("exists", U), ("in", col(0), ("select", (col(0),), U)), ("scalar", one))
        self.assertEqual(faults(("select", exprs, T)), (False,) * 3)
        bad = ("where", op("eq", DIVIDED, num(1)), U)
        exprs = (("exists", bad), ("in", col(0), ("select", (col(0),), bad)), ("scalar", ("select", (col(0),), U)),
                 ("in", col(0), ("select", (col(0),), FAULTY)), ("in", DIVIDED, ("select", (col(0),), U)),
                 ("scalar", ("group", (), (("sum", False, col(0)),), U)),
                 ("scalar", ("group", (), (("max", False, col(0)),), bad)))
        self.assertEqual(faults(("select", exprs, T)), (True,) * len(exprs))
        self.assertEqual(nulls(("select", (("exists", U), ("scalar", one)), T)), (False, True))
        self.assertEqual(faults(("select", (("exists", FAULTY),), T)), (False,))

    def test_columns_of_the_rows_around(self):
        inner = ("where", op("eq", col(1), ("outer", 1, 0)), U)
        self.assertEqual(faults(("select", (("exists", inner),), T)), (False,))
        self.assertEqual(faults(("select", (("exists", inner),), FAULTY)), (True,))
        self.assertTrue(fails(inner))
        self.assertEqual(nulls(("select", (("outer", 1, 0),), T)), (True,))

    def test_columns_of_groups_and_windows(self):
        names = ("rows", "count", "avg", "min", "max", "every", "some", "sum")
        aggs = tuple([(name, False, None if name == "rows" else col(2) if name in ("every", "some") else col(0))
                      for name in names])
        told = facts(("group", (col(1),), aggs, T), SCHEMAS)
        self.assertEqual(told[1], (False,) * 8 + (True,))
        self.assertEqual(told[0], (True, False, False, True, True, True, True, True, True))
        told = facts(("group", (DIVIDED,), (("count", False, DIVIDED), ("avg", False, DIVIDED)), T), SCHEMAS)
        self.assertEqual(told[1:3], ((False, True, True), True))
        funs = [(name, None, (), (), None) for name in ("place", "rank", "dense", "rows")]
        funs += [(name, col(0), (), (), None) for name in ("lag", "lead", "count", "max", "sum")]
        told = facts(("window", tuple(funs), T), SCHEMAS)
        self.assertEqual(told[1], (False,) * 11 + (True,))
        self.assertEqual(told[0][3:], (False, False, False, False, True, True, False, True, True))
        self.assertEqual(faults(("window", (("lag", DIVIDED, (), (), None),), T))[3:], (True,))

    def test_expressions_that_are_never_null(self):
        exprs = (num(3), col(0), op("add", col(0), num(1)), op("isnull", col(0)), op("same", col(0), num(2)),
                 op("coalesce", col(0), num(2)), op("coalesce", op("neg", col(0)), ("const", "int", None)),
                 op("coalesce", ("const", "int", None), col(0)), op("and", YES, op("isnull", col(1))),
                 op("or", YES, op("isnull", col(1))), ("case", ((col(2), num(1)),), col(0)), op("most", col(0), num(1)))
        self.assertEqual(nulls(("select", exprs, T)), (False,) * len(exprs))
        exprs = (("const", "int", None), col(1), op("size", col(1)), op("coalesce", col(1), col(1)),
                 op("and", YES, col(2)), op("or", col(2), YES), ("case", ((col(2), col(1)),), ("const", "text", "")),
                 ("case", ((col(2), ("const", "text", "")),), col(1)), op("nullif", col(0), num(1)))
        self.assertEqual(nulls(("select", exprs, T)), (True,) * len(exprs))

    def test_nulls_of_joins(self):
        for side, told in (("inner", (0, 0, 0, 0)), ("left", (0, 0, 1, 1)), ("right", (1, 1, 0, 0)),
                           ("full", (1, 1, 1, 1))):
            rows = ("rows", ("int", "int"), ((1, 2),))
            self.assertEqual(nulls(("join", side, YES, rows, rows)), tuple([x == 1 for x in told]), side)
        self.assertEqual(nulls(("join", "semi", YES, T, U)), (False, True, True))
        self.assertEqual(nulls(("union", ("select", (col(0),), T), ("select", (col(0),), U))), (True,))
        self.assertEqual(faults(("union", ("select", (col(0),), T), ("select", (DIVIDED,), T))), (True,))

    def test_plans_that_never_fail(self):
        good = (T, ("where", op("lt", col(0), num(1)), T), ("select", (DIVIDED,), T), ("join", "full", eq(0, 3), T, U),
                ("group", (col(0),), (("sum", False, DIVIDED),), T), ("distinct", T), ("union", FAULTY, FAULTY),
                ("except", T, T), ("meet", T, T), ("top", ((col(0), False, False),), 1, 0, T),
                ("window", (("sum", DIVIDED, (col(1),), ((col(0), True, True),), None),), T),
                ("where", ("exists", U), FAULTY))
        bad = (("where", op("eq", DIVIDED, num(1)), T), ("join", "semi", op("eq", DIVIDED, num(1)), T, U),
               ("group", (DIVIDED,), (), T), ("distinct", FAULTY), ("except", ("select", (col(0),), U),
               ("select", (DIVIDED,), T)), ("meet", FAULTY, FAULTY), ("top", (), None, 0, FAULTY),
               ("top", ((DIVIDED, False, False),), None, 0, T), ("window", (), FAULTY),
               ("window", (("rank", None, (DIVIDED,), (), None),), T),
               ("window", (("rank", None, (), ((DIVIDED, False, False),), None),), T),
               ("where", YES, ("distinct", FAULTY)), ("union", T, ("where", op("eq", DIVIDED, num(1)), T)))
        self.assertEqual([fails(plan) for plan in good], [False] * len(good))
        self.assertEqual([fails(plan) for plan in bad], [True] * len(bad))

    def test_keys(self):
        self.assertEqual(keys(("group", (col(1), col(2)), (("rows", False, None),), T)), [(0, 1)])
        self.assertEqual(keys(("group", (), (), T)), [()])
        self.assertEqual(sorted(keys(("distinct", T))), [(0,), (0, 1, 2)])
        for plan in (("where", YES, W), ("top", (), 1, 0, W), ("window", (), W)):
            self.assertEqual(sorted(keys(plan)), [(0, 1), (1, 2)])
        self.assertEqual(sorted(keys(("select", (col(2), col(1), num(1), col(1), col(0)), W))), [(0, 1), (1, 4)])
        self.assertEqual(keys(("select", (op("neg", col(0)), col(1)), T)), [])
        self.assertEqual(keys(("union", T, T)), [])
        for word in ("meet", "except"):
            self.assertEqual(keys((word, T, T)), [(0,)])
        for side in ("semi", "anti"):
            self.assertEqual(sorted(keys(("join", side, YES, W, T))), [(0, 1), (1, 2)])
        for side in ("right", "full"):
            self.assertNotIn((0,), keys(("join", side, eq(0, 4), T, U)))

    def test_keys_of_inner_and_left_joins(self):
        self.assertEqual(keys(("join", "inner", YES, T, U)), [(0, 4)])
        self.assertEqual(sorted(keys(("join", "inner", YES, T, W))), [(0, 3, 4), (0, 4, 5)])
        self.assertEqual(sorted(keys(("join", "inner", op("and", col(4), eq(2, 0)), U, T))), [(1,), (1, 2)])
        self.assertEqual(sorted(keys(("join", "inner", eq(0, 4), T, U))), [(0,), (0, 4), (4,)])
        self.assertEqual(sorted(keys(("join", "left", eq(4, 0), T, U))), [(0,), (0, 4)])
        self.assertEqual(keys(("join", "left", eq(0, 3), T, U)), [(0, 4)])
        both = op("and", op("and", eq(3, 1), YES), eq(2, 0))
        self.assertEqual(sorted(keys(("join", "left", both, U, W))), [(1,), (1, 2, 3), (1, 3, 4)])
        self.assertEqual(sorted(keys(("join", "left", eq(2, 0), U, W))), [(1, 2, 3), (1, 3, 4)])
        self.assertEqual(sorted(keys(("join", "left", op("or", eq(0, 4), eq(0, 4)), T, U))), [(0, 4)])

    def test_all_keys_of_many_tables_are_told(self):
        schemas = (("x", (("a", "int", False), ("b", "int", False)), ((0,), (1,), (0, 1))),)
        plan = ("scan", "x")
        for many in range(1, 9):
            told = facts(plan, schemas)[3]
            self.assertEqual(len(told), 3 ** many)
            self.assertEqual(len(set(told)), 3 ** many)
            self.assertIn(tuple([2 * at + at % 2 for at in range(many)]), told)
            self.assertTrue(all([key == tuple(sorted(key)) for key in told]))
            plan = ("join", "inner", YES, plan, ("scan", "x"))

    def test_keys_of_joins_by_columns_that_agree(self):
        schemas = (("x", (("a", "int", False), ("b", "int", False)), ((0,), (1,))),)
        plan = ("scan", "x")
        for many in range(2, 7):
            plan = ("join", "inner", eq(0, 2 * many - 2), plan, ("scan", "x"))
            # Of each table one of its keys, or none, but not of all none.
            self.assertEqual(len(set(facts(plan, schemas)[3])), 3 ** many - 1)
        unique = ("group", (), (("rows", False, None),), ("scan", "x"))
        told = facts(("join", "inner", eq(0, 2), ("scan", "x"), unique), schemas)[3]
        self.assertEqual(sorted(told), [(), (0,), (1,)])
        self.assertEqual(len(facts(("distinct", ("distinct", ("scan", "x"))), schemas)[3]), 3)

    def test_keys_of_selects_over_joins(self):
        schemas = (("x", (("a", "int", False), ("b", "int", False)), ((0,), (1,))),)
        both = ("join", "inner", YES, ("scan", "x"), ("scan", "x"))
        self.assertEqual(sorted(facts(("select", (col(3), col(0), col(3)), both), schemas)[3]), [(0, 1)])
        self.assertEqual(sorted(facts(("select", (col(3), col(2), col(1)), both), schemas)[3]), [(0, 2), (1, 2)])
        self.assertEqual(facts(("select", (col(0), col(1)), both), schemas)[3], [])

    def test_steps_over_very_many_keys_are_found_soon(self):
        schemas = (("x", (("a", "int", False), ("b", "int", False)), ((0,), (1,), (0, 1))), ("p", (("a", "int", False),), ()))
        plan = ("scan", "x")
        for _ in range(10):
            plan = ("join", "inner", YES, plan, ("scan", "x"))
        self.assertIn(("once", (), plan), found(("distinct", plan), schemas))
        for last, is_key in ((20, True), (21, True), (18, False)):
            cond = YES
            for at in [2 * many + many % 2 for many in range(10)] + [last]:
                cond = op("and", cond, eq(0, 1 + at))
            before = ("select", (col(0),), ("join", "left", cond, ("scan", "p"), plan))
            step = ("drop", (), ("select", (col(0),), ("scan", "p")))
            self.assertIs(takes(before, step, schemas), is_key)


class Safe(unittest.TestCase):

    def test_safe(self):
        self.assertTrue(safe(col(1), (True, False)))
        self.assertFalse(safe(col(0), (True, False)))
        self.assertTrue(safe(num(1), ()))
        self.assertFalse(safe(op("add", num(1), num(1)), ()))
        self.assertTrue(safe(op("neg", op("size", col(1))), (True, False)))
        self.assertFalse(safe(op("isnull", col(0)), (True, False)))
        self.assertTrue(safe(("case", ((YES, num(1)),), num(2)), ()))
        self.assertFalse(safe(("case", ((YES, num(1)),), op("number", ("const", "text", "1"))), ()))
        self.assertFalse(safe(("case", ((op("eq", col(0), num(1)), num(1)),), num(2)), (True,)))

    def test_nothing_with_plans_or_outers_is_safe(self):
        for expr in (("outer", 1, 0), ("exists", T), ("scalar", ("rows", ("int",), ())),
                     ("in", num(1), ("rows", ("int",), ())), op("not", ("exists", T)), op("isnull", ("outer", 1, 0))):
            self.assertFalse(safe(expr, (False,)))

    def test_safe_expressions_are_never_faults(self):
        for seed in range(800):
            maker = plans.Plans(f"safe {seed}", nested=False)
            row = ("int", "text", "bool", "int")
            expr = maker.expr(maker.pick("int", "text", "bool"), row, [], 4)
            may = tuple([maker.maybe(0.3) for _ in row])
            if safe(expr, may):
                for _ in range(10):
                    told = tuple([fault(4) if bad and maker.maybe(0.5) else plans.value(maker.rnd, kind)
                                  for kind, bad in zip(row, may)])
                    self.assertFalse(is_fault(value_of(expr, told, [], {})), (seed, expr, told))


if __name__ == "__main__":
    unittest.main()
