"""Views: which plans can be kept, and their rows behind each change."""

import random
import unittest
from collections import Counter

import plans
from entablature.errors import BadKind
from entablature.meaning import bag
from entablature.plan import nodes
from entablature.tighten import tightened
from entablature.value import fault, sorted_rows
from entablature.view import View, can_keep, change_of, kept_piece
from short import YES, col, eq, num, op

SCHEMAS = plans.SCHEMAS
T, U, V, W = [("scan", name) for name in ("t", "u", "v", "w")]
BIG = 10 ** 18 - 1


DIVIDED = op("div", num(1), col(0))
BAD = op("eq", DIVIDED, num(1))


def drawn_change(rnd, tables):
    """A change that keeps the keys; rows may go and come back in it."""
    change = {}
    for schema in SCHEMAS:
        if rnd.random() < 0.6:
            rows = list(tables[schema[0]])
            rnd.shuffle(rows)
            gone = rows[:rnd.randrange(len(rows) + 1)]
            left = list(rows[len(gone):])
            new = []
            for row in plans.table_rows(rnd, schema, 4) + [row for row in gone if rnd.random() < 0.4] + rows[:1]:
                if all([[row[at] for at in key] not in [[one[at] for at in key] for one in left + new]
                        for key in schema[2]]):
                    new.append(row)
            change[schema[0]] = (gone, new)
    return change


def changed(tables, change):
    told = {name: list(rows) for name, rows in tables.items()}
    for name, (gone, new) in change.items():
        for row in gone:
            told[name].remove(row)
        told[name] += new
    return told


def meant(plan, tables):
    return sorted_rows(bag(plan, [], {schema[0]: (schema, tables[schema[0]]) for schema in SCHEMAS}))


class Keeping(unittest.TestCase):

    def test_plans_that_can_be_kept(self):
        aggs = tuple([(name, distinct, col(2) if name in ("every", "some") else col(0)) for distinct in (False, True)
                      for name in ("count", "sum", "avg", "min", "max", "every", "some")]) + (("rows", False, None),)
        summed = ("group", (col(1),), (("sum", False, col(0)),), T)
        for plan in (T, ("rows", ("int",), ((1,),)), ("where", op("lt", col(0), num(1)), T), ("select", (op("neg", col(0)),), T),
                     ("join", "inner", eq(0, 3), T, U), ("join", "semi", eq(0, 3), T, U), ("join", "anti", YES, T, U),
                     ("union", U, U), ("distinct", U), ("except", U, U), ("meet", U, U), ("group", (col(1),), aggs, T),
                     ("group", (), aggs, T), ("select", (col(1), col(0)), summed), ("where", op("isnull", col(0)), summed),
                     ("join", "semi", op("eq", col(0), col(2)), summed, V)):
            self.assertTrue(can_keep(plan, SCHEMAS), plan)
            self.assertIs(can_keep(plan, SCHEMAS), True)

    def test_plans_that_cannot_be_kept(self):
        summed = ("group", (col(1),), (("sum", False, col(0)),), T)
        order = ((col(0), False, False),)
        for plan in (("join", "left", eq(0, 3), T, U), ("join", "right", eq(0, 3), T, U), ("join", "full", eq(0, 3), T, U),
                     ("window", (), T), ("top", order, None, 0, T), ("where", ("exists", U), T),
                     ("select", (("scalar", ("select", (col(0),), U)),), T), ("where", BAD, T), ("select", (DIVIDED,), T),
                     ("join", "inner", BAD, T, U), ("group", (DIVIDED,), (), T), ("group", (), (("max", False, DIVIDED),), T),
                     ("group", (), (("sum", False, DIVIDED),), T), ("where", ("in", num(1), ("select", (col(0),), U)), T),
                     ("distinct", summed), ("except", summed, summed), ("meet", summed, summed),
                     ("select", (op("neg", col(1)),), summed), ("where", op("isnull", col(1)), summed),
                     ("group", (col(1),), (), summed), ("group", (), (("count", False, col(1)),), summed),
                     ("group", (), (("sum", False, col(1)),), summed),
                     ("union", U, ("select", (col(0), col(1)), ("top", (), None, 0, U)))):
            self.assertFalse(can_keep(plan, SCHEMAS), plan)
            tables = {schema[0]: [] for schema in SCHEMAS}
            with self.assertRaises(BadKind):
                View(plan, SCHEMAS, tables)
            with self.assertRaises(BadKind):
                change_of(plan, SCHEMAS, tables, {})

    def test_drawn_plans(self):
        kept = Counter()
        for seed in range(2500):
            plan = plans.plan(seed, nested=False, faulty=0.03) if seed % 2 else plans.bait(seed, False, 0.03)
            if can_keep(plan, SCHEMAS):
                kept[plan[0]] += 1
                self.check(plan, random.Random(seed), 4)
        for word in ("where", "select", "join", "group", "distinct", "except", "meet", "union"):
            self.assertGreater(kept[word], 20, word)

    def check(self, plan, rnd, many):
        tables = {name: list(rows) for name, (_, rows) in plans.tables(str(rnd.random())).items()}
        view = View(plan, SCHEMAS, tables)
        self.assertEqual(view.rows(), meant(plan, tables))
        self.assertEqual(view.looked(), 0)
        for _ in range(many):
            change = drawn_change(rnd, tables)
            before = {name: list(rows) for name, rows in tables.items()}
            copy = {name: (list(gone), list(new)) for name, (gone, new) in change.items()}
            told = change_of(plan, SCHEMAS, tables, change)
            was = Counter(view.rows())
            view.change(change)
            self.assertEqual((tables, change), (before, copy))
            tables = changed(tables, change)
            self.assertEqual(view.rows(), meant(plan, tables), plan)
            now = Counter(view.rows())
            self.assertEqual(told, (sorted_rows((was - now).elements()), sorted_rows((now - was).elements())))

    def test_sums_that_are_no_value_come_and_go(self):
        plan = ("select", (col(1), col(0)), ("group", (col(1),), (("sum", False, col(0)),), U))
        tables = {schema[0]: [] for schema in SCHEMAS}
        view = View(plan, SCHEMAS, tables)
        view.change({"u": ([], [(BIG, 1), (BIG, 1)])})
        self.assertEqual(view.rows(), [(fault(4), 1)])
        view.change({"u": ([(BIG, 1)], [(5, 2)])})
        self.assertEqual(view.rows(), [(5, 2), (BIG, 1)])
        told = change_of(plan, SCHEMAS, {"u": [(BIG, 1), (5, 2)]}, {"u": ([], [(BIG, 1), (BIG, 2)])})
        self.assertEqual(told, ([(5, 2), (BIG, 1)], [(fault(4), 1), (fault(4), 2)]))
        everything = ("group", (), (("sum", False, col(0)), ("count", False, col(1))), U)
        view = View(everything, SCHEMAS, tables)
        self.assertEqual(view.rows(), [(None, 0)])
        view.change({"u": ([], [(BIG, 1), (BIG, 2)])})
        self.assertEqual(view.rows(), [(fault(4), 2)])
        view.change({"u": ([(BIG, 1), (BIG, 2)], [])})
        self.assertEqual(view.rows(), [(None, 0)])

    def test_what_does_not_change(self):
        view = View(T, SCHEMAS, {"t": [(1, "a", None)]})
        row = (1, "a", None)
        view.change({"t": ([row], [row]), "zz": ([], [(1,)])})
        view.change({})
        self.assertEqual(view.rows(), [row])
        self.assertEqual(change_of(T, SCHEMAS, {"t": [row]}, {"t": ([row], [row])}), ([], []))
        view.rows().append((9, "z", None))
        self.assertEqual(view.rows(), [row])

    def test_lists_count_like_tuples_and_may_be_changed_later(self):
        rows = [[1, "a", None]]
        view = View(T, SCHEMAS, {"t": rows})
        rows[0][0] = 7
        rows.append([8, "b", None])
        new = [[2, "b", True]]
        view.change({"t": ([], new)})
        new[0][0] = 9
        self.assertEqual(view.rows(), [(1, "a", None), (2, "b", True)])


class Looked(unittest.TestCase):

    def test_each_row_of_a_change_is_looked_at(self):
        for seed in range(400):
            plan = plans.plan(seed, nested=False, faulty=0.0)
            if not can_keep(plan, SCHEMAS):
                continue
            rnd = random.Random(seed)
            tables = {name: list(rows) for name, (_, rows) in plans.tables(seed).items()}
            view = View(plan, SCHEMAS, tables)
            for _ in range(3):
                change = drawn_change(rnd, tables)
                before = view.looked()
                view.change(change)
                least = 0
                most = 0
                for name, (gone, new) in change.items():
                    was, now = Counter(gone), Counter(new)
                    if f"('scan', '{name}')" in str(plan):
                        least += len((was - now) | (now - was))
                    most += len(gone) + len(new)
                self.assertGreaterEqual(view.looked() - before, least)
                if all([f"'{word}'" not in str(plan) for word in ("join", "group", "distinct", "except", "meet")]):
                    self.assertLessEqual(view.looked() - before, 4 * most * nodes(plan) ** 2)
                tables = changed(tables, change)

    def test_a_small_change_of_a_large_table(self):
        plan = ("union", ("where", op("lt", col(0), num(5)), T), ("where", op("ge", col(0), num(5)), T))
        rows = [(at, "a", None) for at in range(2000)]
        view = View(plan, SCHEMAS, {"t": rows})
        view.change({"t": ([rows[3]], [(3, "b", True)])})
        self.assertLessEqual(view.looked(), 4 * 2 * nodes(plan) ** 2)
        self.assertGreaterEqual(view.looked(), 2)


class Tight(unittest.TestCase):

    def test_the_same_rows(self):
        turned = 0
        for made in (plans.plan, plans.bait):
            for seed in range(900):
                plan = made(f"tight {seed}", nested=False, faulty=0.0)
                piece = kept_piece(plan, SCHEMAS)
                if piece is not None:
                    told = tightened(piece).plan
                    turned += told != plan
                    tables = plans.tables(seed)
                    self.assertEqual(sorted_rows(bag(told, [], tables)), sorted_rows(bag(plan, [], tables)))
        self.assertGreater(turned, 150)

    def test_conditions_go_to_their_sides(self):
        cond = op("and", op("and", eq(0, 3), op("lt", col(0), num(2))), op("and", YES, op("isnull", col(5))))
        plan = ("where", cond, ("join", "inner", YES, T, T))
        left = ("where", op("lt", col(0), num(2)), T)
        self.assertEqual(tightened(kept_piece(plan, SCHEMAS)).plan,
                         ("join", "inner", eq(0, 3), left, ("where", op("isnull", col(2)), T)))
        three = ("where", op("and", eq(0, 3), eq(3, 6)), ("join", "inner", YES, ("join", "inner", YES, T, T), T))
        self.assertEqual(tightened(kept_piece(three, SCHEMAS)).plan,
                         ("join", "inner", eq(3, 6), ("join", "inner", eq(0, 3), T, T), T))

    def test_large_tables_are_not_paired_row_by_row(self):
        plan = ("where", op("and", eq(0, 3), eq(3, 6)), ("join", "inner", YES, ("join", "inner", YES, T, T), T))
        rows = [(at, "a", None) for at in range(2000)]
        view = View(plan, SCHEMAS, {"t": rows})
        self.assertEqual(view.rows(), [row * 3 for row in rows])
        view.change({"t": ([rows[7]], [(7, "b", True)])})
        self.assertEqual(view.rows()[7], (7, "b", True) * 3)
        self.assertLess(view.looked(), 100)


if __name__ == "__main__":
    unittest.main()
