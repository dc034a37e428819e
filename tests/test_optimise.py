"""Running plans, estimates and the optimiser."""

import random
import time
import unittest

import plans
from entablature.checker import takes_all
from entablature.estimate import cost, size
from entablature.facts import facts, safe
from entablature.meaning import answer
from entablature.optimise import candidates
from entablature.plan import kinds, moved, parts
from entablature.running import plan_of, simple
from short import YES, col, eq, op

SCHEMAS = plans.SCHEMAS
T, U, V, W = ("scan", "t"), ("scan", "u"), ("scan", "v"), ("scan", "w")


def drawn_stats(seed):
    rnd = random.Random(f"stats {seed}")
    stats = {}
    for schema in SCHEMAS:
        if rnd.random() < 0.85:
            many = rnd.choice((len(schema[1]), len(schema[1]), 0, 1, 20))
            stats[schema[0]] = (rnd.choice((0, 1, 7, 300, 10 ** 6, 10 ** 12)),
                                tuple([rnd.choice((0, 1, 5, 1000, 10 ** 12)) for _ in range(many)]))
    return stats


def inputs_of(running):
    word = running[0]
    if word in ("scan", "rows"):
        return []
    if word in ("loop", "hash", "merge", "union", "except", "meet"):
        return [running[-2], running[-1]]
    return [running[-1]]


def all_in(running):
    found = [running]
    for below in inputs_of(running):
        found += all_in(below)
    return found


class Running(unittest.TestCase):

    def test_plan_of(self):
        low = op("lt", col(0), ("const", "int", 1))
        scan = ("scan", "t", None)
        other = ("scan", "u", low)
        aggs = (("rows", False, None),)
        for running, plan in (
                (scan, T), (other, ("where", low, U)), (("rows", ("int",), ((1,),)), ("rows", ("int",), ((1,),))),
                (("where", low, other), ("where", low, ("where", low, U))), (("select", (col(0),), scan), ("select", (col(0),), T)),
                (("union", scan, scan), ("union", T, T)), (("loop", "full", YES, scan, other), ("join", "full", YES, T, ("where", low, U))),
                (("hash", "left", (col(0),), (col(0),), eq(0, 3), scan, other), ("join", "left", eq(0, 3), T, ("where", low, U))),
                (("merge", "semi", (col(0),), (col(1),), eq(0, 4), scan, other), ("join", "semi", eq(0, 4), T, ("where", low, U))),
                (("group", (col(1),), aggs, scan), ("group", (col(1),), aggs, T)),
                (("sorted", (col(1),), aggs, scan), ("group", (col(1),), aggs, T)),
                (("distinct", scan), ("distinct", T)), (("except", scan, scan), ("except", T, T)),
                (("meet", scan, scan), ("meet", T, T)), (("window", (), scan), ("window", (), T)),
                (("top", ((col(0), True, False),), 3, 1, scan), ("top", ((col(0), True, False),), 3, 1, T))):
            self.assertEqual(plan_of(running), plan)

    def test_simple(self):
        for seed in range(500):
            plan = plans.plan(seed)
            running = simple(plan)
            self.assertEqual(plan_of(running), plan)
            for part in all_in(running):
                self.assertNotIn(part[0], ("hash", "merge", "sorted", "join"))
                if part[0] == "scan":
                    self.assertIsNone(part[2])
        self.assertEqual(simple(("where", YES, T)), ("where", YES, ("scan", "t", None)))
        self.assertEqual(simple(("join", "anti", YES, T, ("group", (), (), U))),
                         ("loop", "anti", YES, ("scan", "t", None), ("group", (), (), ("scan", "u", None))))


class Estimates(unittest.TestCase):

    def test_whole_numbers_that_grow_with_the_inputs(self):
        for seed in range(600):
            plan = plans.plan(seed) if seed % 2 else plans.bait(seed)
            stats = drawn_stats(seed)
            before = dict(stats)
            for _, running in [([], simple(plan))] + candidates(plan, SCHEMAS, stats):
                for part in all_in(running):
                    told = cost(part, stats)
                    for x in (told, size(part, stats)):
                        self.assertIs(type(x), int)
                        self.assertGreaterEqual(x, 0)
                    self.assertEqual(told, cost(part, dict(stats)))
                    for below in inputs_of(part):
                        self.assertGreaterEqual(told, cost(below, stats))
            self.assertEqual(stats, before)

    def test_what_is_told_of_sizes(self):
        for many in (0, 1, 17, 10 ** 6):
            stats = {"t": (many, (many, 2, 2)), "u": (3, (3, 3))}
            scan = ("scan", "t", None)
            self.assertEqual(size(scan, stats), many)
            self.assertGreaterEqual(cost(scan, stats), many)
            self.assertGreaterEqual(cost(("scan", "t", eq(0, 0)), stats), many)
            loop = ("loop", "inner", eq(0, 3), scan, scan)
            self.assertGreaterEqual(cost(loop, stats), many * many)
            self.assertGreaterEqual(cost(("loop", "semi", YES, loop, ("scan", "u", None)), stats), size(loop, stats) * 3)
        self.assertEqual(size(("scan", "t", None), {}), 0)
        self.assertEqual(size(("rows", ("int",), ((1,), (1,), (2,))), {}), 3)
        self.assertEqual(size(("rows", (), ()), {}), 0)

    def test_other_tables_count_for_nothing(self):
        stats = {"t": (5, (5, 5, 2))}
        more = {"t": (5, (5, 5, 2)), "u": (10 ** 6, (1, 1)), "zz": (3, ())}
        for running in (("scan", "t", None), ("where", ("exists", T), ("scan", "t", None))):
            self.assertEqual(cost(running, stats), cost(running, more))
            self.assertEqual(size(running, stats), size(running, more))

    def test_loops_of_drawn_plans(self):
        for seed in range(300):
            stats = {name: (min(many, 10 ** 6), told) for name, (many, told) in drawn_stats(seed).items()}
            for part in all_in(simple(plans.plan(seed))):
                if part[0] == "loop":
                    self.assertGreaterEqual(cost(part, stats), size(part[3], stats) * size(part[4], stats))


class Candidates(unittest.TestCase):

    def check_hash(self, part):
        """A hash or a merge is as [10.1] tells."""
        _, _, lefts, rights, cond, left, right = part
        many = len(kinds(plan_of(left), SCHEMAS))
        width = len(kinds(plan_of(right), SCHEMAS))
        faults = facts(plan_of(left), SCHEMAS)[1] + facts(plan_of(right), SCHEMAS)[1]
        self.assertTrue(safe(cond, faults))
        self.assertEqual(len(lefts), len(rights))
        self.assertGreater(len(lefts), 0)
        for one, other in zip(lefts, rights):
            other = moved(other, [many + at for at in range(width)])
            self.assertTrue(op("eq", one, other) in parts(cond) or op("eq", other, one) in parts(cond))

    def test_candidates(self):
        words = {}
        for seed in range(900):
            plan = plans.plan(seed) if seed % 2 else plans.bait(seed)
            stats = drawn_stats(seed)
            tables = plans.tables(seed)
            told = candidates(plan, SCHEMAS, stats)
            self.assertTrue(1 <= len(told) <= 64)
            costs = [cost(running, stats) for _, running in told]
            self.assertEqual(costs[0], min(costs))
            for steps, running in told:
                self.assertIs(type(steps), list)
                self.assertTrue(takes_all(plan, steps, SCHEMAS), seed)
                last = steps[-1][2] if steps else plan
                self.assertEqual(plan_of(running), last)
                self.assertEqual(answer(last, tables), answer(plan, tables), seed)
                for part in all_in(running):
                    words[part[0]] = words.get(part[0], 0) + 1
                    if part[0] in ("hash", "merge"):
                        self.check_hash(part)
        for word in ("hash", "merge", "loop", "sorted", "group"):
            self.assertGreater(words[word], 50)

    def test_they_depend_on_the_tables_read_alone(self):
        extra = (("zz", (("a", "int", False),), ((0,),)),)
        for seed in range(200):
            plan = plans.bait(seed)
            stats = drawn_stats(seed)
            read = str(plan)
            kept = tuple([schema for schema in SCHEMAS if f"'scan', '{schema[0]}'" in read])
            few = {name: told for name, told in stats.items() if f"'scan', '{name}'" in read}
            more = dict(stats)
            more["zz"] = (4, (1,))
            told = candidates(plan, SCHEMAS, stats)
            self.assertEqual(told, candidates(plan, kept, few))
            self.assertEqual(told, candidates(plan, extra + SCHEMAS, more))

    def test_what_is_told_is_new(self):
        plan = ("where", op("and", eq(0, 0), eq(3, 0)), ("join", "inner", YES, T, U))
        told = candidates(plan, SCHEMAS, {})
        again = candidates(plan, SCHEMAS, {})
        told[0][0].clear()
        told.clear()
        self.assertEqual(candidates(plan, SCHEMAS, {}), again)

    def test_joins_of_two_scans(self):
        for first in (100, 777, 100000):
            for second in (100, 5000, 100000):
                stats = {"t": (first, (first, 9, 2)), "u": (second, (second, second))}
                for cond in (eq(0, 3), eq(3, 0), eq(4, 0)):
                    for plan in (("join", "inner", cond, T, U), ("where", cond, ("join", "inner", YES, T, U))):
                        best = candidates(plan, SCHEMAS, stats)[0][1]
                        self.assertLessEqual(10 * cost(best, stats), cost(simple(plan), stats), (first, second, plan))

    def test_a_join_of_a_table_with_itself(self):
        stats = {"u": (100, (100, 100))}
        plan = ("where", eq(3, 1), ("join", "inner", YES, U, U))
        self.assertLessEqual(10 * cost(candidates(plan, SCHEMAS, stats)[0][1], stats), cost(simple(plan), stats))

    def test_joins_of_three_scans(self):
        for many in ((100, 100, 100), (100, 100000, 100), (100000, 100000, 100), (100, 100, 100000), (9999, 100, 777)):
            stats = {name: (x, (x, x, x)) for name, x in zip(("t", "u", "w"), many)}
            below = ("join", "inner", YES, ("join", "inner", YES, T, U), W)
            for first in (eq(0, 3), eq(4, 0)):
                for second in (eq(0, 5), eq(6, 3), eq(5, 4)):
                    plan = ("where", op("and", first, second), below)
                    best = candidates(plan, SCHEMAS, stats)[0][1]
                    self.assertLessEqual(10 * cost(best, stats), cost(simple(plan), stats), (many, plan))

    def test_large_plans_are_done_soon(self):
        low = op("lt", col(0), col(1))
        wide = op("and", YES, low)
        for _ in range(8):
            wide = op("and", wide, wide)
        tree = U
        for _ in range(6):
            tree = ("select", (col(0), col(1)), ("where", op("and", eq(0, 2), op("lt", col(0), col(3))),
                                                 ("join", "inner", YES, tree, tree)))
        deep = U
        for _ in range(28):
            deep = ("select", (op("add", col(0), col(1)), col(1)), ("where", op("and", low, op("and", low, YES)), deep))
        for plan in (("where", wide, U), tree, deep):
            kinds(plan, SCHEMAS)
            began = time.time()
            for steps, running in candidates(plan, SCHEMAS, {"u": (100, (100, 100))}):
                self.assertTrue(takes_all(plan, steps, SCHEMAS))
                self.assertEqual(plan_of(running), steps[-1][2] if steps else plan)
            self.assertLess(time.time() - began, 10)


if __name__ == "__main__":
    unittest.main()
