import random
import time
import unittest
from collections import Counter

from entablature.bound import bound
from entablature.column import unpacked
from entablature.errors import BadForm, BadKey, BadName, NoSuch, TooMuch
from entablature.schema import check_schema, fits
from entablature.store import Store, segment_rows, segmented

T = ("t", (("a", "int", False), ("b", "text", True)), ((0,),))
BAGS = ("bags", (("x", "int", True), ("y", "bool", True)), ())
WIDE = ("wide", (("a", "int", False), ("b", "int", False), ("c", "text", False)), ((0, 1), (2,)))
KINDS = ("bool", "int", "text")


class Schemas(unittest.TestCase):

    def test_right_ones(self):
        twelve = tuple([(f"c{at}", "int", False) for at in range(12)])
        for schema in (T, BAGS, WIDE, ("a", (("a", "bool", True),), ()), ("x" * 20, twelve, ((0,), (1,), (2,), (0, 11))),
                       ("a_1", (("z_", "int", False),), ((0,),))):
            self.assertIsNone(check_schema(schema))

    def test_wrong_ones(self):
        column = ("a", "int", False)
        many = tuple([(f"c{at}", "int", False) for at in range(13)])
        five = tuple([(at,) for at in range(5)])
        for schema in (None, 5, "t", (), ("t",), ("t", (column,)), ["t", (column,), ()], ("t", (column,), (), ()),
                       ("", (column,), ()), ("T", (column,), ()), ("1a", (column,), ()), ("_a", (column,), ()),
                       ("x" * 21, (column,), ()), ("select", (column,), ()), ("row", (column,), ()), (5, (column,), ()),
                       ("a b", (column,), ()), ("a\n", (column,), ()), ("\xe9", (column,), ()), (None, (column,), ()),
                       ("t", (), ()), ("t", many, ()), ("t", [column], ()), ("t", (list(column),), ()),
                       ("t", (column, column), ()), ("t", (("a", "int"),), ()), ("t", (("a", "float", False),), ()),
                       ("t", (("a", "int", 0),), ()), ("t", (("a", "int", None),), ()), ("t", (("A", "int", False),), ()),
                       ("t", (("from", "int", False),), ()), ("t", (("a", ("int",), False),), ()),
                       ("t", (column,), []), ("t", (column,), (0,)), ("t", (column,), ([0],)), ("t", (column,), ((),)),
                       ("t", (column,), ((1,),)), ("t", (column,), ((-1,),)), ("t", (column,), ((True,),)),
                       ("t", (column,), ((False,),)), ("t", (column,), ((0, 0),)), ("t", (column,), ((0,), (0,))),
                       ("t", (column,), (("a",),)), ("t", (column, ("b", "int", False)), ((1, 0),)),
                       ("t", (("a", "int", True),), ((0,),)), ("t", many[:12], five), ("t", (column,), None),
                       ("t", None, ()), ("t", (None,), ()), ("t", (((),),), ()), ("t", (([], "int", False),), ())):
            with self.assertRaises(BadForm, msg=schema):
                check_schema(schema)

    def test_fits(self):
        for row in ((1, "a"), (1, None), [1, "a"], (0, "")):
            self.assertTrue(fits(T, row))
        for row in ((None, "a"), (True, "a"), (1,), (1, "a", 2), ("1", "a"), (1, 2), (1, "%"), (10 ** 18, "a"), (), None, 5,
                    "ab", {1: 2, 3: 4}, (("fault", 1), "a"), ([1], "a"), (1, ["a"])):
            self.assertFalse(fits(T, row), row)


class Stores(unittest.TestCase):

    def store(self):
        store = Store()
        for schema in (T, BAGS, WIDE):
            store.create(schema)
        return store

    def rows(self, store, name, version=None):
        version = store.version() if version is None else version
        return sorted(store.rows(name, version), key=repr)

    def refused(self, error, store, changes):
        before = [(schema[0], self.rows(store, schema[0])) for schema in store.schemas()]
        version = store.version()
        with self.assertRaises(error):
            store.commit(changes)
        self.assertEqual(store.version(), version)
        self.assertEqual([(schema[0], self.rows(store, schema[0])) for schema in store.schemas()], before)

    def test_an_empty_store(self):
        store = Store()
        self.assertEqual((store.version(), store.schemas()), (0, ()))
        self.assertEqual(store.commit([]), 1)
        self.assertEqual(store.version(), 1)
        for call in (lambda: store.rows("t", 0), lambda: store.segments("t", 0), lambda: store.schema("t"),
                     lambda: store.drop("t"), lambda: store.pack("t", 9), lambda: store.settle("t", 0)):
            with self.assertRaises(NoSuch):
                call()

    def test_create_and_drop(self):
        store = Store()
        self.assertIsNone(store.create(T))
        store.commit([("t", [], [(1, "a")])])
        with self.assertRaises(BadForm):
            store.create(("T", (), ()))
        with self.assertRaises(BadName) as caught:
            store.create(T)
        self.assertEqual(caught.exception.at, -1)
        store.create(BAGS)
        self.assertEqual(store.schemas(), (T, BAGS))
        self.assertEqual(store.schema("bags"), BAGS)
        self.assertEqual(store.rows("bags", 1), [])
        with self.assertRaises(NoSuch):
            store.rows("bags", 0)
        with self.assertRaises(NoSuch):
            store.segments("bags", 0)
        for version in (2, -1):
            with self.assertRaises(NoSuch):
                store.rows("t", version)
        self.assertIsNone(store.drop("t"))
        with self.assertRaises(NoSuch):
            store.rows("t", 1)
        store.commit([])
        store.create(T)
        self.assertEqual(store.schemas(), (BAGS, T))
        self.assertEqual(store.rows("t", 2), [])
        with self.assertRaises(NoSuch):
            store.rows("t", 1)

    def test_twenty_tables(self):
        store = Store()
        for at in range(20):
            store.create((f"t{at}", T[1], T[2]))
        with self.assertRaises(TooMuch):
            store.create(("more", T[1], T[2]))
        with self.assertRaises(BadName):
            store.create(("t3", T[1], T[2]))
        with self.assertRaises(BadForm):
            store.create(("more", T[1], ((1,),)))
        store.drop("t3")
        store.create(("more", T[1], T[2]))
        self.assertEqual(len(store.schemas()), 20)

    def test_commits(self):
        store = self.store()
        self.assertEqual(store.commit([("t", [], [(1, "a"), [2, None]]), ["bags", (), ((1, True), (1, True))]]), 1)
        self.assertEqual(store.commit([]), 2)
        self.assertEqual(store.commit([("t", [(1, "a")], [(1, "b")]), ("bags", [(1, True)], [])]), 3)
        # Rows that an earlier change brought may go in a later one; the same row may go and come.
        self.assertEqual(store.commit([("t", [], [(9, "x")]), ("t", [(9, "x"), (2, None)], [(2, None)])]), 4)
        self.assertEqual(self.rows(store, "t", 0), [])
        self.assertEqual(self.rows(store, "t", 1), [(1, "a"), (2, None)])
        self.assertEqual(self.rows(store, "t", 2), [(1, "a"), (2, None)])
        self.assertEqual(self.rows(store, "t", 3), [(1, "b"), (2, None)])
        self.assertEqual(self.rows(store, "t", 4), [(1, "b"), (2, None)])
        self.assertEqual(self.rows(store, "bags", 2), [(1, True), (1, True)])
        self.assertEqual(self.rows(store, "bags", 4), [(1, True)])

    def test_what_is_handed_in_and_told_is_apart(self):
        store = self.store()
        row = [1, "a"]
        new = [row]
        change = ["t", [], new]
        changes = [change]
        store.commit(changes)
        row[0] = 7
        new.append([3, "c"])
        self.assertEqual(store.rows("t", 1), [(1, "a")])
        store.rows("t", 1).append((5, "e"))
        self.assertEqual(store.rows("t", 1), [(1, "a")])
        told = store.segments("t", 1)
        told[0][0][0].append(5)
        told.append(None)
        self.assertEqual(segment_rows(T, store.segments("t", 1)[0]), [(1, "a")])

    def test_refusals(self):
        store = self.store()
        store.commit([("t", [], [(1, "a")]), ("wide", [], [(1, 2, "x")])])
        self.refused(NoSuch, store, [("nope", [], [])])
        self.refused(BadForm, store, [("t", [], [(None, "a")])])
        self.refused(BadForm, store, [("t", [(1,)], [])])
        self.refused(BadForm, store, [("t", [], ["ab"])])
        self.refused(BadForm, store, [("t", [], [None])])
        self.refused(NoSuch, store, [("t", [(2, "a")], [])])
        self.refused(NoSuch, store, [("t", [(1, "a"), (1, "a")], [])])
        self.refused(NoSuch, store, [("t", [(1, "b")], []), ("t", [], [(1, "b")])])
        # In one change rows go before others come.
        self.refused(NoSuch, store, [("t", [(2, "b")], [(2, "b")])])
        self.refused(BadKey, store, [("t", [], [(1, "b")])])
        self.refused(BadKey, store, [("t", [], [(5, "b"), (5, "b")])])
        self.refused(BadKey, store, [("wide", [], [(1, 2, "y")])])
        self.refused(BadKey, store, [("wide", [], [(1, 3, "x")])])
        self.assertEqual(store.commit([("wide", [], [(1, 3, "y")]), ("t", [(1, "a")], [(1, "c")])]), 2)
        # Only at the end are keys looked at.
        self.assertEqual(store.commit([("t", [], [(1, "d")]), ("t", [(1, "c")], [])]), 3)

    def test_the_order_of_refusals(self):
        store = self.store()
        store.commit([("t", [], [(1, "a")])])
        many = [(at, True) for at in range(2001)]
        self.refused(NoSuch, store, [("nope", [(1,)], []), ("t", [], [(None, "a")])])
        self.refused(BadForm, store, [("t", [], [(None, "a")]), ("nope", [], [])])
        self.refused(BadForm, store, [("t", [(5, "a")], []), ("t", [], [(1, 1)])])
        self.refused(BadForm, store, [("t", [(5, "a")], [(1, 1)])])
        self.refused(NoSuch, store, [("bags", [], many), ("t", [(5, "a")], [(1, "b")])])
        self.refused(NoSuch, store, [("t", [], [(1, "b")]), ("t", [(5, "a")], [])])
        self.refused(BadKey, store, [("bags", [], many), ("wide", [], [(1, 1, "x"), (1, 1, "y")])])
        self.refused(BadKey, store, [("wide", [], [(at % 2, 1, "x") for at in range(2001)])])
        self.refused(TooMuch, store, [("bags", [], many)])

    def test_2000_rows(self):
        store = self.store()
        rows = [(at, True) for at in range(2000)]
        self.assertEqual(store.commit([("bags", [], rows)]), 1)
        self.refused(TooMuch, store, [("bags", [], [(5, None)])])
        self.assertEqual(store.commit([("bags", [], [(5, None)]), ("bags", [(0, True)], [])]), 2)
        self.assertEqual(len(store.rows("bags", 2)), 2000)
        self.assertEqual(sum([len(segment_rows(BAGS, segment)) for segment in store.segments("bags", 2)]), 2000)
        self.assertTrue(all([len(segment[0][0]) > 0 for segment in store.segments("bags", 2)]))

    def check_segments(self, store, name, version, rows):
        schema = store.schema(name)
        found = []
        for columns, bounds, gone in store.segments(name, version):
            told = [unpacked(column) for column in columns]
            self.assertEqual([part[0] for part in told], [column[1] for column in schema[1]])
            self.assertLessEqual(len(told[0][2]), 256)
            self.assertEqual(bounds, tuple([bound(part[2]) for part in told]))
            self.assertEqual(len({len(part[2]) for part in told}), 1)
            self.assertEqual(list(gone), sorted(set(gone)))
            self.assertEqual((type(columns), type(bounds), type(gone)), (tuple, tuple, tuple))
            lines = [row for at, row in enumerate(zip(*[part[2] for part in told])) if at not in gone]
            self.assertEqual(segment_rows(schema, (columns, bounds, gone)), lines)
            found.extend(lines)
        self.assertEqual(Counter(found), rows)
        self.assertEqual(Counter(store.rows(name, version)), rows)

    def test_random_commits(self):
        for seed in range(12):
            rnd = random.Random(seed)
            store = self.store()
            bags = {name: [Counter()] for name in ("t", "bags")}
            for _ in range(40):
                roll = rnd.random()
                if roll < 0.1:
                    store.pack(rnd.choice(("t", "bags")), rnd.randrange(5))
                elif roll < 0.2:
                    store.settle(rnd.choice(("t", "bags")), rnd.choice((1, 3, 256)))
                changes = []
                now = {name: Counter(bags[name][-1]) for name in bags}
                for name in ("t", "bags"):
                    there = list(now[name].elements())
                    rnd.shuffle(there)
                    gone = there[:rnd.randrange(4)]
                    now[name] -= Counter(gone)
                    if name == "t":
                        taken = {row[0] for row in now[name]}
                        new = [(at, rnd.choice(("a", None))) for at in rnd.sample(range(30), 4) if at not in taken]
                    else:
                        new = [(rnd.choice((1, 2, None)), rnd.choice((True, None))) for _ in range(rnd.randrange(5))]
                    now[name] += Counter(new)
                    changes.append((name, gone, new))
                store.commit(changes)
                for name in bags:
                    bags[name].append(now[name])
            for name in bags:
                for version, rows in enumerate(bags[name]):
                    self.check_segments(store, name, version, rows)

    def test_pack(self):
        store = self.store()
        store.commit([("t", [], [(at, "x") for at in range(300)])])
        store.commit([("t", [(5, "x")], [])])
        with self.assertRaises(NoSuch):
            store.pack("nope", 9)
        for packing in (5, -1, None, True):
            with self.assertRaises(BadForm):
                store.pack("t", packing)
        for packing in range(5):
            self.assertIsNone(store.pack("t", packing))
            for version in (1, 2):
                for columns, _, _ in store.segments("t", version):
                    self.assertEqual(unpacked(columns[0])[1], packing)
                    self.assertTrue(packing > 2 or unpacked(columns[1])[1] == packing)
            self.assertEqual(len(store.rows("t", 2)), 299)

    def test_settle(self):
        store = self.store()
        store.commit([("t", [], [(at, "x") for at in range(300)])])
        store.commit([("t", [(at, "x") for at in range(0, 300, 2)], [])])
        with self.assertRaises(NoSuch):
            store.settle("nope", 0)
        for size in (0, 257, -1, None, True):
            with self.assertRaises(BadForm):
                store.settle("t", size)
        for size in (1, 7, 256):
            self.assertIsNone(store.settle("t", size))
            self.assertEqual(store.version(), 2)
            for columns, _, _ in store.segments("t", 2):
                self.assertLessEqual(len(unpacked(columns[0])[2]), size)
            self.check_segments(store, "t", 2, Counter([(at, "x") for at in range(1, 300, 2)]))
            self.check_segments(store, "t", 1, Counter([(at, "x") for at in range(300)]))
        store.commit([("t", [], [(0, "y")])])
        self.check_segments(store, "t", 2, Counter([(at, "x") for at in range(1, 300, 2)]))
        self.check_segments(store, "t", 1, Counter([(at, "x") for at in range(300)]))

    def test_segmented(self):
        rows = [(at, "x" if at % 3 else None) for at in range(20)]
        for packing in range(5):
            for size in (1, 6, 20, 256):
                segments = segmented(T, rows, packing, size)
                self.assertEqual(len(segments), -(-20 // size))
                found = []
                for columns, bounds, gone in segments:
                    self.assertEqual(gone, ())
                    self.assertEqual(unpacked(columns[0])[1], packing)
                    self.assertTrue(packing > 2 or unpacked(columns[1])[1] == packing)
                    self.assertLessEqual(len(unpacked(columns[0])[2]), size)
                    self.assertEqual(bounds, tuple([bound(unpacked(column)[2]) for column in columns]))
                    found.extend(segment_rows(T, (columns, bounds, gone)))
                self.assertEqual(found, rows)
        self.assertEqual(segmented(T, [], 0, 5), [])
        one = ("one", (("x", "int", True),), ())
        self.assertEqual([segment_rows(one, segment) for segment in segmented(one, [(1,), (None,), [3]], 1, 2)], [[(1,), (None,)], [(3,)]])
        columns, bounds, _ = segmented(T, [[1, "a"], (2, "b"), (3, None)], 0, 9)[0]
        self.assertEqual(segment_rows(T, (columns, bounds, (0, 2))), [(2, "b")])
        self.assertEqual(segment_rows(T, (columns, bounds, (0, 1, 2))), [])

    def test_many_commits_of_large_tables_are_quick(self):
        store = self.store()
        store.commit([("t", [], [(at, "x") for at in range(2000)])])
        began = time.process_time()
        for at in range(3000):
            store.commit([("t", [(at % 2000, "x" if at < 2000 else "y")], [(at % 2000, "y" if at < 2000 else "x")])])
        for version in range(0, 3001, 100):
            self.assertEqual(len(store.rows("t", version)), 2000 if version else 0)
        self.assertLess(time.process_time() - began, 20)
        self.check_segments(store, "t", 2501, Counter([(at, "x") for at in range(500)] +
                                                      [(at, "y") for at in range(500, 2000)]))


if __name__ == "__main__":
    unittest.main()
