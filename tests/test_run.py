"""Running: answers whatever the settings are, and the counts."""

import random
import time
import unittest

import plans
from entablature.bound import may_hold
from entablature.meaning import answer
from entablature.optimise import candidates
from entablature.plan import joined
from entablature.run import run
from entablature.running import plan_of, simple
from entablature.store import segmented
from entablature.value import fault
from short import YES, col, eq, num, op

SCHEMAS = plans.SCHEMAS
T, U, V, W = [("scan", name, None) for name in ("t", "u", "v", "w")]
FORM = ("x", (("a", "int", False), ("b", "int", True), ("c", "text", True)), ())
X = ("scan", "x", None)


def settings(rnd):
    return {"budget": rnd.choice((4, 5, 6, 9, 30, 1000, 100000)), "batch": rnd.choice((1, 2, 3, 7, 64, 1000)),
            "workers": rnd.choice((1, 2, 3, 4)), "turns": [rnd.randrange(-5, 12) for _ in range(rnd.randrange(4))]}


def cut(tables, rnd, size=None):
    return {name: (schema, segmented(schema, rows, rnd.choice((0, 1, 2, 3, 4)), size or rnd.choice((1, 2, 3, 256))))
            for name, (schema, rows) in tables.items()}


def rows_of_x(many, seed=0):
    rnd = random.Random(seed)
    return [(rnd.randrange(12), rnd.choice((None, 0, 1, 2, 3)), rnd.choice((None, "a", "b"))) for _ in range(many)]


def table_x(many, size, seed=0):
    return {"x": (FORM, segmented(FORM, rows_of_x(many, seed), 0, size))}


class Answers(unittest.TestCase):

    def check(self, running, tables, rnd, why):
        told, counts = run(running, cut(tables, rnd), **settings(rnd))
        self.assertEqual(repr(told), repr(answer(plan_of(running), tables)), (why, running))
        self.assertEqual(len(counts), 5)

    def test_candidates_of_drawn_plans(self):
        for seed in range(1200):
            rnd = random.Random(seed)
            plan = plans.plan(seed) if seed % 2 else plans.bait(seed)
            tables = plans.tables(seed, rnd.choice((0, 3, 12)))
            for _, running in candidates(plan, SCHEMAS, {}) + [([], simple(plan))]:
                self.check(running, tables, rnd, seed)

    def test_each_word_with_many_rows(self):
        low = op("lt", col(0), num(6))
        half = ("where", low, X)
        aggs = (("rows", False, None), ("count", False, col(1)), ("sum", True, col(1)), ("avg", False, col(0)),
                ("min", True, col(2)), ("max", False, col(2)), ("every", False, op("lt", col(1), num(3))),
                ("some", True, op("lt", col(1), num(3))), ("count", True, col(2)))
        plain = tuple([(name, False, arg) for name, _, arg in aggs])
        joins = []
        for side in ("inner", "left", "right", "full", "semi", "anti"):
            cond = joined([eq(1, 4), op("le", col(0), col(3))])
            joins.append(("loop", side, cond, X, half))
            for word in ("hash", "merge"):
                joins.append((word, side, (col(1),), (col(1),), cond, X, half))
                joins.append((word, side, (col(1), col(2)), (col(1), col(2)), joined([eq(1, 4), eq(5, 2)]), half, X))
        order = ((col(1), True, True), (col(2), False, False), (col(0), True, False))
        funs = (("place", None, (col(1),), ((col(2), True, False),), None), ("sum", col(0), (), (), None),
                ("rank", None, (col(2),), ((col(0), False, False),), None),
                ("count", col(1), (), ((col(0), False, False),), (("before", 2), ("after", 1))),
                ("lag", col(2), (col(1),), (), None))
        for running in [half, ("scan", "x", low), ("union", X, half), ("distinct", X), ("except", X, half),
                        ("meet", half, X), ("top", order, None, 0, X), ("top", order, 5, 3, X), ("top", (), 0, 0, X),
                        ("select", (col(2), col(0)), ("top", order, None, 2, X)), ("window", funs, X), ("window", (), X),
                        ("select", (op("neg", col(1)), num(3)), X), ("rows", ("int",), ((3,), (None,), (1,)))] + joins + [
                            (word, keys, told, X) for word in ("group", "sorted") for told in (aggs, plain, ())
                            for keys in ((), (col(1),), (col(2), col(1)))]:
            for many in (0, 1, 40, 120):
                tables = {"x": (FORM, rows_of_x(many, many))}
                for seed in range(4):
                    self.check(running, tables, random.Random(f"{seed} {many}"), many)

    def test_faults(self):
        bad = op("eq", op("div", num(1), col(1)), num(1))
        cast = op("eq", op("number", col(2)), num(1))
        rows = [(k, k, "1") for k in range(1, 30)] + [(0, 0, "1"), (5, 1, "x")]
        tables = {"x": (FORM, rows)}
        one = ("where", bad, X)
        other = ("where", cast, X)
        for running, code in ((one, 1), (other, 2), (("union", other, one), 1), (("loop", "left", YES, other, one), 1),
                              (("where", bad, other), 2), (("scan", "x", bad), 1), (("loop", "anti", cast, X, X), 2),
                              (("distinct", ("select", (op("div", num(1), col(1)),), X)), 1),
                              (("top", (), 0, 0, ("select", (op("number", col(2)),), X)), 2),
                              (("top", ((bad, False, False),), 0, 0, X), 1), (("group", (bad,), (), X), 1),
                              (("sorted", (cast,), (), X), 2), (("select", (bad, cast), X), 1),
                              (("window", (("rank", None, (cast,), ((bad, False, False),), None),), X), 1),
                              (("where", ("exists", ("where", cast, ("scan", "x"))), X), 2)):
            for seed in range(6):
                rnd = random.Random(seed)
                self.assertEqual(run(running, cut(tables, rnd), **settings(rnd))[0], fault(code), running)
                self.assertEqual(answer(plan_of(running), tables), fault(code))

    def test_deep_plans(self):
        running = X
        for at in range(57):
            running = ("distinct", running) if at % 3 == 0 else ("select", (col(0), col(1), col(2)), running) if \
                at % 3 == 1 else ("union", running, ("rows", ("int", "int", "text"), ()))
        told, _ = run(running, table_x(50, 7), budget=5, batch=1)
        self.assertEqual(told, answer(plan_of(running), {"x": (FORM, rows_of_x(50))}))

    def test_settings_are_not_kept_or_changed(self):
        turns = [3, 1, 2]
        tables = table_x(30, 4)
        told = run(("distinct", X), tables, turns=turns, workers=3)
        self.assertEqual(turns, [3, 1, 2])
        told[0].clear()
        self.assertEqual(run(("distinct", X), tables, turns=turns, workers=3)[0],
                         answer(("distinct", ("scan", "x")), {"x": (FORM, rows_of_x(30))}))

    def test_many_small_plans_are_run_soon(self):
        drawn = [(simple(plans.plan(f"run {seed}")), cut(plans.tables(seed), random.Random(seed))) for seed in range(1500)]
        began = time.time()
        for running, tables in drawn:
            run(running, tables)
        self.assertLess(time.time() - began, 20)


class Counts(unittest.TestCase):

    def test_a_scan_unpacks_each_segment_once(self):
        for many in (0, 1, 2, 3, 50, 120):
            for size in (1, 2, 3, 256):
                for workers in (1, 2, 4):
                    tables = table_x(many, size)
                    told, counts = run(X, tables, workers=workers, turns=[5, 2, 1])
                    self.assertEqual(counts[:2], (len(tables["x"][1]), 0))
                    self.assertEqual(counts[3:], (0, 0))
                    self.assertEqual(len(told), many)
                    self.assertIn(counts[2], (0, many))

    def test_each_scan_is_run_though_others_fail_or_are_empty(self):
        bad = ("where", op("eq", op("div", num(1), num(0)), num(1)), X)
        empty = ("rows", ("int", "int", "text"), ())
        for running in (("loop", "inner", YES, empty, X), ("loop", "inner", YES, X, empty), ("union", bad, X),
                        ("hash", "semi", (col(0),), (col(0),), eq(0, 3), bad, X), ("except", empty, X),
                        ("merge", "inner", (col(0),), (col(0),), eq(0, 3), empty, ("top", (), 0, 0, X))):
            tables = table_x(40, 3)
            scans = str(running).count("'scan'")
            counts = run(running, tables)[1]
            self.assertGreaterEqual(counts[0], scans * len(tables["x"][1]))
            self.assertEqual(counts[0] % len(tables["x"][1]), 0)

    def test_segments_are_left_out_by_their_bounds(self):
        rows = [(k, None if k % 10 == 0 else k // 10, "a") for k in range(100)]
        tables = {"x": (FORM, segmented(FORM, rows, 0, 10))}
        for name in ("eq", "ne", "lt", "le", "gt", "ge"):
            for at, worth in ((0, -1), (0, 0), (0, 35), (0, 99), (0, 100), (1, 4), (0, None)):
                cond = op(name, col(at), num(worth))
                told, counts = run(("scan", "x", cond), tables)
                kept = [segment for segment in tables["x"][1] if may_hold(name, segment[1][at], worth)]
                self.assertEqual(counts[0] + counts[1], 10)
                self.assertLessEqual(counts[0], len(kept), cond)
                self.assertEqual(told, answer(plan_of(("scan", "x", cond)), {"x": (FORM, rows)}))
        cond = op("and", op("lt", col(0), num(20)), op("gt", col(0), num(10)))
        self.assertEqual(sum(run(("scan", "x", cond), tables)[1][:2]), 10)
        unsafe = op("and", op("lt", col(0), num(20)), op("eq", op("div", num(1), op("sub", col(0), num(50))), num(1)))
        self.assertEqual(run(("scan", "x", unsafe), tables)[0], [])

    def operators(self):
        aggs = (("sum", True, col(0)), ("max", True, col(2)), ("rows", False, None))
        order = ((col(1), True, True), (col(0), False, False))
        return [(("distinct", X), 1), (("except", X, X), 2), (("meet", X, X), 2), (("group", (col(0),), aggs, X), 1),
                (("group", (col(0), col(1)), aggs[2:], X), 1), (("sorted", (col(1),), aggs[2:], X), 1),
                (("sorted", (), aggs, X), 1), (("top", order, 3, 1, X), 1), (("loop", "full", eq(1, 4), X, X), 2),
                (("hash", "left", (col(1),), (col(1),), eq(1, 4), X, X), 2),
                (("merge", "full", (col(1),), (col(1),), eq(1, 4), X, X), 2),
                (("merge", "semi", (col(2),), (col(2),), eq(2, 5), X, X), 2)]

    def test_held_is_at_most_the_budget_and_one_row_more(self):
        for running, _ in self.operators():
            for budget in (4, 5, 7, 16, 50, 300):
                for many in (0, 3, 30, 120):
                    counts = run(running, table_x(many, 7), budget=budget, batch=3)[1]
                    self.assertLessEqual(counts[3], budget + 1, (running, budget, many))
        for seed in range(300):
            plan = plans.plan(seed, nested=False)
            if "window" not in str(plan):
                rnd = random.Random(seed)
                for _, running in candidates(plan, SCHEMAS, {}):
                    self.assertLessEqual(run(running, cut(plans.tables(seed, 20), rnd), budget=4)[1][3], 5)

    def test_nothing_is_spooled_with_room_enough(self):
        funs = (("place", None, (col(1),), (), None), ("sum", col(0), (col(2),), ((col(0), True, True),), None))
        for running, inputs in self.operators() + [(("window", funs, X), 1), (("window", (), X), 1)]:
            for many in (3, 30, 120):
                counts = run(running, table_x(many, 7), budget=max(many * inputs, 4))[1]
                self.assertEqual(counts[4], 0, running)
                if many * inputs > 40 and inputs == 1 and running[0] in ("top", "sorted"):
                    self.assertGreater(run(running, table_x(many, 7), budget=8)[1][4], 0)

    def test_what_orders_rows_holds_or_spools_them_all(self):
        order = ((col(1), True, True),)
        for running, inputs in (
                (("top", order, 1, 0, X), 1), (("top", (), 0, 0, X), 1), (("sorted", (col(0),), (), X), 1),
                (("merge", "inner", (col(1),), (col(1),), eq(1, 4), X, X), 2),
                (("merge", "anti", (col(0),), (col(0),), eq(0, 3), X, X), 2),
                (("window", (("rank", None, (col(0),), order, None),), X), 1)):
            for budget in (4, 9, 64, 1000):
                for many in (0, 5, 60, 120):
                    counts = run(running, table_x(many, 16), budget=budget)[1]
                    self.assertGreaterEqual(counts[3] + counts[4], many * inputs, (running, budget, many))

    def test_a_window_holds_a_whole_part(self):
        counts = run(("window", (("rank", None, (), (), None),), X), table_x(100, 16), budget=4)[1]
        self.assertGreaterEqual(counts[3], 100)
        funs = (("rank", None, (col(0),), (), None), ("place", None, (col(0), col(1)), (), None), ("lag", col(1), (col(2), col(0)), (), None))
        for many in (0, 20, 100):
            largest = max([0] + [[row[0] for row in rows_of_x(many)].count(x) for x in range(12)])
            for budget in (4, 9, 50):
                counts = run(("window", funs, X), table_x(many, 16), budget=budget)[1]
                self.assertLessEqual(counts[3], max(budget + 1, largest + 1))

    def test_rows_that_are_handed_on(self):
        low = op("lt", col(0), num(6))
        many = len([row for row in rows_of_x(60) if row[0] < 6])
        counts = run(("select", (col(0),), ("where", low, X)), table_x(60, 8))[1]
        self.assertIn(counts[2], (60 + many, 60 + 2 * many))
        counts = run(("scan", "x", low), table_x(60, 8))[1]
        self.assertIn(counts[2], (0, many))

    def test_plans_in_expressions_add_their_counts(self):
        inner = ("where", op("eq", col(0), ("outer", 1, 0)), ("scan", "x"))
        tables = table_x(30, 5)
        for cond in (("exists", inner), ("exists", ("scan", "x")), ("in", col(0), ("select", (col(0),), ("scan", "x")))):
            counts = run(("where", cond, X), tables)[1]
            self.assertGreaterEqual(counts[0], 12)
            self.assertEqual(counts[0] % 6, 0)


if __name__ == "__main__":
    unittest.main()
