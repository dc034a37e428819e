"""Rights: their forms, what is seen by them, rights put together, and views over seen rows."""

import itertools
import random
import unittest

import plaindesk
from entablature.copies import only_reads
from entablature.errors import BadForm, BadKind, NoSuch
from entablature.meaning import bag, value_of
from entablature.programs import check_program, footprint
from entablature.right import (SeenBy, SeenView, check_right, is_enough, is_seen, is_within, joined, met, right_of, seen_change,
                               seen_rows)
from entablature.seen import Seen
from entablature.value import fault, sorted_rows
from plaindesk import BIG, FORMS, KEYS, VIEWS, Pair, filled, program
from short import NO, NULL, YES, col, num, op, text

P0 = ("param", 0)
SMALL = op("lt", col(0), num(3))
LIKE = op("like", op("upper", col(1)), text("A*"))
WHATS = {"t": ("none", "all", SMALL, LIKE, op("isnull", col(1)), op("not", SMALL), ("case", ((SMALL, YES),), NULL), YES, NULL),
         "u": ("none", "all", col(2), op("eq", col(1), text("x")), op("or", col(2), op("isnull", col(0)))),
         "free": ("none", "all", op("isnull", col(0)), op("eq", col(0), num(1)))}


def drawn(rnd, names=("p0", "p1", "p2")):
    tables = tuple([(name, rnd.choice(WHATS[name])) for name in rnd.sample(sorted(WHATS), rnd.randrange(4))])
    return (tables, tuple(rnd.sample(names, rnd.randrange(len(names) + 1))))


def sees(right, name, row):
    """Whether a row is seen, by the words of the document."""
    for table, what in right[0]:
        if table == name:
            return what == "all" or (what != "none" and value_of(what, row, [], {}) is True)
    return False


class Forms(unittest.TestCase):

    def test_rights(self):
        database = filled().database
        for right in (((), ()), ((("t", "all"),), ()), ((("free", "none"), ("t", SMALL), ("u", col(2))), ("p", "not_there")), ((("t", op("eq", LIKE, op("isnull", col(2)))),), ("p",))):
            self.assertIsNone(check_right(right, database))

    def test_no_forms(self):
        database = filled().database
        deep = YES
        for _ in range(12):
            deep = op("not", deep)
        wide = op("and", SMALL, SMALL)
        for _ in range(4):
            wide = op("and", wide, wide)
        for right in (None, 5, "all", (), ((),), ((), (), ()), [(), ()], ([], ()), ((), []), ((("t",),), ()), ((("t", "all", 1),), ()), ((["t", "all"],), ()), (("t", "all"), ()), ((("t", "some"),), ()),
                      ((("t", None),), ()), ((("t", True),), ()), ((("t", ()),), ()), ((("T", "all"),), ()), (((5, "all"),), ()), ((("select", "all"),), ()), ((("t", "all"), ("t", "none")), ()),
                      ((), ("p", "p")), ((), ("P",)), ((), (5,)), ((), ("",)), ((), "p"), ((("t", ("const", "bool", 1)),), ()), ((("t", ("const", "int", 10 ** 18)),), ()), ((("t", ("case", (), YES)),), ()),
                      ((("t", ("col", -1)),), ()), ((("t", ("col", True)),), ()), ((("t", ("outer", 1, 0)),), ()), ((("t", ("exists", ("scan", "t"))),), ()), ((("t", ("op", "not", [YES])),), ()), ((("t", deep),), ()),
                      ((("t", wide),), ()), ((("z", ("col", -1)),), ()), ((("z", "all"), ("t", "odd")), ())):
            with self.assertRaises(BadForm):
                check_right(right, database)
        self.assertIsNone(check_right(((("t", deep[2][0]),), ()), database))

    def test_expressions_that_may_be_faults(self):
        database = filled().database
        for name in ("add", "sub", "mul", "div", "mod"):
            for what in (op("eq", op(name, col(0), num(1)), num(1)), op("and", NO, op("gt", num(1), op(name, num(1), num(1))))):
                with self.assertRaises(BadForm):
                    check_right(((("t", what),), ()), database)
        for what in (op("eq", op("number", col(1)), num(1)), op("eq", op("cat", col(1), col(1)), text("")), ("case", ((op("eq", op("number", col(1)), num(1)), YES),), NO)):
            with self.assertRaises(BadForm):
                check_right(((("t", what),), ()), database)

    def test_tables_and_kinds(self):
        database = filled().database
        for right, error in (((("z", "all"),), NoSuch), ((("v", "all"),), NoSuch), ((("t", col(0)),), BadKind), ((("t", ("const", "int", 1)),), BadKind), ((("t", col(3)),), BadKind), ((("free", col(1)),), BadKind),
                             ((("t", op("odd", col(0))),), BadKind), ((("t", op("not", YES, YES)),), BadKind), ((("t", op("eq", col(0))),), BadKind), ((("t", op("eq", col(0), col(1))),), BadKind),
                             ((("t", ("case", ((num(1), YES),), NO)),), BadKind), ((("t", ("case", ((YES, YES),), num(1))),), BadKind), ((("t", col(9)), ("z", "all")), BadKind), ((("z", "all"), ("t", col(9))), NoSuch),
                             ((("z", col(9)),), NoSuch)):
            with self.assertRaises(error) as caught:
                check_right((right, ()), database)
            if error is BadKind:
                self.assertEqual(caught.exception.at, -1)


class Rows(unittest.TestCase):

    def test_what_is_seen(self):
        right = ((("t", SMALL), ("u", "all"), ("free", "none")), ())
        self.assertEqual([right_of(right, name) for name in ("t", "u", "free", "z")], [SMALL, "all", "none", "none"])
        rows = [(3, "a", 1), (1, "b", 2), [2, None, 3]]
        self.assertEqual(seen_rows(right, "t", rows), [(1, "b", 2), [2, None, 3]])
        self.assertEqual((seen_rows(right, "u", rows), seen_rows(right, "free", rows), seen_rows(right, "z", rows)), (rows, [], []))
        self.assertIsNot(seen_rows(right, "u", rows), rows)
        for what, due in (("all", True), ("none", False), (SMALL, True), (op("not", SMALL), False), (NULL, False), (NO, False), (YES, True), (LIKE, False)):
            self.assertIs(is_seen(what, (1, None, 2)), due)

    def test_seen_by(self):
        database = filled().database
        database.commit([("t", [(2, None, 20)], [(2, "c", 21), (3, "d", 30)])])
        right = ((("t", SMALL), ("free", "all")), ())
        for version, due in ((1, [(1, "a", 10), (2, None, 20)]), (2, [(1, "a", 10), (2, "c", 21)])):
            seen = SeenBy(database, version, right)
            self.assertIsInstance(seen, Seen)
            self.assertEqual((seen.database is database, seen.version, seen.right), (True, version, right))
            self.assertEqual(sorted(seen.rows("t")), due)
            self.assertEqual((seen.row("t", 1), seen.row("t", 3), seen.row("t", 9), seen.row("u", "x"), seen.rows("u")), ((1, "a", 10), None, None, None, []))
            self.assertEqual(len(seen.rows("free")), 3)
        seen.write("t", 8, (8, "z", 1))
        seen.write("t", 0, (0, "z", 1))
        self.assertEqual((seen.row("t", 8), seen.row("t", 0), sorted(seen.rows("t"))[0]), (None, (0, "z", 1), (0, "z", 1)))
        for version in (-1, 3):
            with self.assertRaises(NoSuch):
                SeenBy(database, version, right)

    def test_changes(self):
        right = ((("t", SMALL), ("u", "all")), ())
        change = {"t": ([(1, "a", 1), (5, "b", 1), (2, "b", 1), (2, "b", 1)], [(2, "b", 1), (6, "c", 1), (0, "d", 1)]), "u": ([(1, "y", True), (0, "x", True)], []), "free": ([(1,)], [(2,)])}
        before = repr(change)
        self.assertEqual(seen_change(right, change), {"t": ([(1, "a", 1), (2, "b", 1)], [(0, "d", 1)]), "u": ([(0, "x", True), (1, "y", True)], []), "free": ([], [])})
        self.assertEqual(repr(change), before)
        self.assertEqual(seen_change(right, {}), {})


class Together(unittest.TestCase):

    def test_joined_and_met(self):
        a = ((("t", SMALL), ("u", "all"), ("free", "none")), ("p", "q"))
        b = ((("free", LIKE), ("t", LIKE), ("x", "all")), ("s", "q", "r"))
        self.assertEqual(joined(a, b), ((("t", op("or", SMALL, LIKE)), ("u", "all"), ("free", LIKE), ("x", "all")), ("p", "q", "s", "r")))
        self.assertEqual(met(a, b), ((("t", op("and", SMALL, LIKE)), ("u", "none"), ("free", "none"), ("x", "none")), ("q",)))
        self.assertEqual(joined(b, a)[0][:2], (("free", LIKE), ("t", op("or", LIKE, SMALL))))
        self.assertEqual((joined(a, a), met(a, a)), (a, a))
        self.assertEqual((joined(a, ((), ())), joined(((), ()), a)), (a, a))
        self.assertEqual(met(a, ((("t", "all"),), ("q", "p"))), ((("t", SMALL), ("u", "none"), ("free", "none")), ("p", "q")))
        self.assertEqual(met(((("t", "all"),), ()), a)[0][0], ("t", SMALL))
        self.assertEqual(joined(((("t", "all"),), ()), a)[0][0], ("t", "all"))

    def test_drawn_rights(self):
        rnd = random.Random(2)
        within = 0
        for _ in range(300):
            desk = filled(rnd)
            database = desk.database
            a, b = drawn(rnd), drawn(rnd)
            one, both = joined(a, b), met(a, b)
            for name in FORMS:
                for row in database.store.rows(name, 1):
                    self.assertIs(is_seen(right_of(a, name), row), sees(a, name, row))
                    self.assertIs(is_seen(right_of(one, name), row), sees(a, name, row) or sees(b, name, row))
                    self.assertIs(is_seen(right_of(both, name), row), sees(a, name, row) and sees(b, name, row))
            for x, y in itertools.permutations((a, b, one, both), 2):
                due = all([name in y[1] for name in x[1]]) and all([sees(y, name, row) or not sees(x, name, row) for name in FORMS for row in database.store.rows(name, 1)])
                self.assertIs(is_within(x, y, database, 1), due)
                self.assertIs(is_within(x, y, database, 0), all([name in y[1] for name in x[1]]))
                within += due
            self.assertTrue(is_within(a, one, database, 1) and is_within(both, b, database, 1))
        self.assertGreater(within, 300)

    def test_tables_without_the_version_are_passed_over(self):
        database = filled().database
        database.create(("late", (("a", "int", False),), ((0,),)))
        database.commit([("late", [], [(1,)])])
        a, b = ((("late", "all"),), ()), ((), ())
        self.assertEqual([is_within(a, b, database, version) for version in (0, 1, 2, 9)], [True, True, False, True])

    def test_is_enough(self):
        prints = ((("r", "t", P0),), (("r", "u", P0), ("w", "u", P0)), (("w", "free", P0),), (("a", "t"), ("a", "x")))
        for tables, due in (((("t", "all"), ("u", "all"), ("x", "all")), True), ((("t", "all"), ("u", "all")), False), ((("t", "all"), ("u", YES), ("x", "all")), False), ((("u", "all"), ("x", "all")), False)):
            self.assertIs(is_enough((tables, ()), prints), due)
        self.assertIs(is_enough(((), ()), ((("w", "t", P0),), ())), True)


class Looks(unittest.TestCase):

    def desk(self):
        one = filled()
        one.add(("see", ("int",), (("read", "t", P0), ("ask", "SELECT * FROM v"), ("ask", "SELECT count(*) FROM u"))))
        one.add(("move", ("int",), (("drop", "t", P0),)))
        return one

    def test_looks_and_refusals(self):
        one = self.desk()
        one.give("ann", ((("t", SMALL),), ("see", "move", "later")))
        one.give("bob", ((("t", op("gt", col(2), num(15))), ("u", "all")), ("see",)))
        one.run("move", (1,))
        for user, values, snapshot, due in (("ann", (1,), 1, ((1, "a", 10), (("a", 10), (None, 20)), ((0,),))), ("ann", (1,), None, (None, ((None, 20),), ((0,),))), ("bob", (1,), 1, (None, ((None, 20),), ((1,),))),
                                            ("bob", (2,), 2, ((2, None, 20), ((None, 20),), ((1,),)))):
            self.assertEqual(one.look(user, "see", values, snapshot=snapshot), due)
        for user, name, values, snapshot, error in (("eve", "see", (1,), None, NoSuch), ("ann", "later", (1,), None, NoSuch), ("bob", "move", (1,), None, NoSuch), ("ann", "see", (1,), 0, NoSuch), ("ann", "see", (1,), 3, NoSuch),
                                                    ("ann", "move", (1,), 9, NoSuch), ("ann", "move", (), None, BadKind), ("ann", "see", (), None, BadForm), ("ann", "see", ("x",), 1, BadForm), ("ann", "see", (), 9, NoSuch)):
            with self.assertRaises(error):
                one.look(user, name, values, snapshot=snapshot)
        self.assertEqual((one.version(), len(one.history()), one.runs), (2, 1, {}))
        one.give("ann", ((), ("see",)))
        self.assertEqual(one.look("ann", "see", (2,)), (None, (), ((0,),)))
        one.add(("later", (), (("ask", "SELECT 1"),)))
        with self.assertRaises(NoSuch):
            one.look("ann", "later", ())
        with self.assertRaises(NoSuch):
            one.look("ann", "see", (2,), snapshot=1)

    def test_users(self):
        one = self.desk()
        right = ((), ("see",))
        for user in ("", "a" * 21, 5, None, "a\n", "\xe9", True):
            with self.assertRaises(BadForm):
                one.give(user, right)
        for right, error in (((), BadForm), (((("z", "all"),), ()), NoSuch), (((("t", col(0)),), ()), BadKind)):
            with self.assertRaises(error):
                one.give("ann", right)
        with self.assertRaises(BadForm):
            one.give("", ((("z", "all"),), ()))
        log = one.log()
        for user in ("a" * 20, " ", "A-b ~"):
            one.give(user, ((), ()))
        self.assertGreater(len(one.log()), len(log))

    def test_what_is_told_depends_on_the_seen_rows_alone(self):
        looks = 0
        for seed in range(120):
            rnd = random.Random("looks %d" % seed)
            right = drawn(rnd)
            programs = [program(rnd, "p%d" % at, 4) for at in range(3)]
            desks = [filled(rnd)]
            other = plaindesk.Desk()
            for form in FORMS.values():
                other.create(form)
            # The same seen rows, and others that are hidden.
            changes = []
            for name, form in FORMS.items():
                rows = [row for row in desks[0].database.store.rows(name, 1) if sees(right, name, row)]
                place = {"t": 0, "u": 1}.get(name)
                for _ in range(6):
                    row = tuple([rnd.choice({"int": (1, 2, 3, 4, 7), "text": ("a", "x", "y", "q"), "bool": (True, False)}[kind]) for _, kind, _ in form[1]])
                    if not sees(right, name, row) and (place is None or row[place] not in [told[place] for told in rows]):
                        rows.append(row)
                changes.append((name, [], rows))
            other.fill(changes)
            for name, words in VIEWS.items():
                other.view(name, words)
            desks.append(other)
            for desk in desks:
                for made in programs:
                    check_program(made, desk.database)
                    desk.add(made)
                desk.give("ann", right)
            for made in programs:
                if made[0] not in right[1] or not only_reads(made):
                    continue
                for _ in range(3):
                    given = plaindesk.values(rnd, made[1])
                    told = [desk.look("ann", made[0], given) for desk in desks]
                    tables = {name: {spot: row for spot, row in rows.items() if sees(right, name, row)} for name, rows in plaindesk.state(desks[0], 1).items()}
                    self.assertEqual(repr(told[0]), repr(plaindesk.plain(made, given, tables)[0]))
                    self.assertEqual(repr(told[0]), repr(told[1]))
                    looks += 1
                    if is_enough(right, footprint(made, desks[0].database)):
                        self.assertEqual(repr(told[0]), repr(desks[0].run(made[0], given, snapshot=1)[1]))
        self.assertGreater(looks, 60)


class SeenViews(unittest.TestCase):

    def test_views_behind_changes(self):
        for seed in range(50):
            rnd = random.Random("seen views %d" % seed)
            pair = Pair(rnd)
            database = pair.desk.database
            right = drawn(rnd)
            kept = {name: SeenView(database, name, right) for name in VIEWS}
            for _ in range(20):
                before = database.version()
                pair.deed(self)
                if database.version() > before:
                    change = {}
                    for name in FORMS:
                        old, new = [list(database.store.rows(name, version)) for version in (before, before + 1)]
                        if sorted(old, key=repr) != sorted(new, key=repr):
                            change[name] = (old, new) if rnd.random() < 0.5 else ([row for row in old if row not in new], [row for row in new if row not in old])
                    for view in kept.values():
                        view.change(change)
                for name, view in kept.items():
                    tables = {table: (form, [row for row in database.store.rows(table, database.version()) if sees(right, table, row)]) for table, form in FORMS.items()}
                    self.assertEqual(view.rows(), sorted_rows(bag(database.view_of(name).plan, [], tables)))

    def test_faults_and_refusals(self):
        database = filled().database
        view = SeenView(database, "v", ((("t", op("not", SMALL)),), ()))
        self.assertEqual(view.rows(), [])
        view.change({"t": ([], [(7, "z", BIG), (8, "z", BIG), (1, "z", 5)])})
        self.assertEqual(view.rows(), [("z", fault(4))])
        view.change({"t": ([(7, "z", BIG)], [])})
        self.assertEqual(view.rows(), [("z", BIG)])
        for name in ("t", "none"):
            with self.assertRaises(NoSuch):
                SeenView(database, name, ((), ()))
        self.assertEqual(sorted(KEYS), ["t", "u"])


if __name__ == "__main__":
    unittest.main()
