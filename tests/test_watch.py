"""Serial telling, the watch, tries anew, invariants and views within runs, held against a second reading."""

import random
import unittest

import plaindesk
from entablature.again import broken, holds, keeps_alone, one_round, rounds
from entablature.database import Database
from entablature.errors import BadName, NoSuch
from entablature.history import first_order, first_ring
from entablature.inview import rows_back, rows_in
from entablature.meaning import bag
from entablature.programs import check_program, footprint
from entablature.runs import Run, is_stale
from entablature.seen import Seen
from entablature.serial import asked, behind, plain_run, plain_table, plain_tables, serially
from entablature.value import fault, sorted_rows
from entablature.watch import watch
from plaindesk import BIG, FREE, T, U, VIEWS, Pair, filled, program
from short import YES, col, num, op, text

P0, P1 = ("param", 0), ("param", 1)


def copy(tables):
    return {name: dict(rows) for name, rows in tables.items()}


class Serial(unittest.TestCase):

    def test_plain_tables(self):
        self.assertEqual(plain_table(T, [[1, "a", 2], (3, None, 4)]), {1: (1, "a", 2), 3: (3, None, 4)})
        self.assertEqual(plain_table(U, [(5, "x", True)]), {"x": (5, "x", True)})
        told = plain_table(FREE, [(1,), (None,), (1,)])
        self.assertEqual((sorted(told), sorted(told.values(), key=repr)), ([0, 1, 2], [(1,), (1,), (None,)]))
        self.assertEqual(sorted(plain_table(("two", T[1], ((0,), (2,))), [(1, "a", 2)])), [0])
        database = filled().database
        told = plain_tables(database, 1)
        self.assertEqual(list(told), ["t", "u", "free"])
        self.assertEqual((told["t"], told["u"]), ({1: (1, "a", 10), 2: (2, None, 20)}, {"x": (5, "x", True)}))
        self.assertEqual(plain_tables(database, 0), {"t": {}, "u": {}, "free": {}})
        told["t"].clear()
        self.assertEqual(len(plain_tables(database, 1)["t"]), 2)
        for version in (-1, 2):
            with self.assertRaises(NoSuch):
                plain_tables(database, version)
        database.create(("late", T[1], T[2]))
        self.assertEqual((list(plain_tables(database, 0)), plain_tables(database, 1)["late"]), (["t", "u", "free"], {}))

    def test_asked(self):
        database = filled().database
        tables = plain_tables(database, 1)
        for words, due in (("SELECT a FROM t", ((1,), (2,))), ("SELECT * FROM v", (("a", 10), (None, 20))), ("SELECT 1 / (n - 10) FROM t", fault(1)), ("SELECT a FROM t WHERE n > 50", ()),
                           ("SELECT a FROM t ORDER BY a DESC", ((2,), (1,))), ("SELECT count(*) FROM free", ((3,),))):
            self.assertEqual(asked(database, words, tables), due)
        with self.assertRaises(BadName):
            asked(database, "SELECT z FROM t", tables)

    def test_asked_of_long_tables(self):
        database = Database()
        for form in (T, U):
            database.create(form)
        rows = [(at, "a" if at % 2 else None, at % 700) for at in range(2000)]
        others = [(at, "k%d" % at, at % 3 == 0) for at in range(2000)]
        tables = {"t": plain_table(T, rows), "u": plain_table(U, others)}
        self.assertEqual(asked(database, "SELECT count(*) FROM t, u WHERE n = x AND f", tables), ((sum([row[2] % 3 == 0 for row in rows]),),))
        self.assertEqual(asked(database, "SELECT sum(1 / (n - 3)) FROM t", tables), fault(1))
        self.assertEqual(asked(database, "SELECT a FROM t ORDER BY n DESC, a LIMIT 2", tables), ((699,), (1399,)))

    def test_plain_run_and_behind(self):
        database = filled().database
        tables = plain_tables(database, 1)
        before = copy(tables)
        made = ("p", ("int", "text"), (("set", "t", P0, ((2, num(1)),)), ("set", "t", ("value", 9), ((2, num(1)),)), ("drop", "t", ("value", 9)), ("read", "t", P0),
                                       ("put", "u", (col(4), P1, ("const", "bool", None))), ("drop", "t", P0), ("ask", "SELECT a FROM t"), ("read", "u", P1)))
        check_program(made, database)
        told, writes = plain_run(database, made, (1, "q"), tables)
        self.assertEqual(told, (None, None, None, (1, "a", 1), None, None, ((2,),), (1, "q", False)))
        self.assertEqual(writes, (("t", 1, (1, "a", 1)), ("t", 9, None), ("u", "q", (1, "q", False)), ("t", 1, None)))
        self.assertEqual(tables, before)
        after = behind(tables, writes)
        self.assertEqual(after, {"t": {2: (2, None, 20)}, "u": {"x": (5, "x", True), "q": (1, "q", False)}, "free": tables["free"]})
        after["free"].clear()
        after["t"].clear()
        self.assertEqual(tables, before)
        self.assertEqual(behind(tables, ()), before)
        self.assertIsNot(behind(tables, ())["t"], tables["t"])

    def test_drawn_runs(self):
        database = filled().database
        rnd = random.Random(4)
        for _ in range(300):
            made = program(rnd, "p", 6)
            check_program(made, database)
            given = plaindesk.values(rnd, made[1])
            tables = plaindesk.state(filled(rnd), 1)
            before = copy(tables)
            found, after, writes = plaindesk.plain(made, given, tables)
            told = plain_run(database, made, given, tables)
            self.assertEqual(repr(told), repr((found, writes)))
            self.assertEqual((behind(tables, writes), tables), (after, before))

    def test_serially(self):
        database = filled().database
        rnd = random.Random(5)
        for _ in range(60):
            programs = {name: program(rnd, name, 4) for name in "pqs"}
            history = []
            for at in range(4):
                name = rnd.choice("pqs")
                history.append((name, plaindesk.values(rnd, programs[name][1]), "loose", 0, at, ()))
            order = tuple(rnd.sample(range(4), 4))
            tables = plaindesk.state(filled(rnd), 1)
            before = copy(tables)
            now, due = tables, []
            for at in order:
                found, now, _ = plaindesk.plain(programs[history[at][0]], history[at][1], now)
                due.append(found)
            told, after = serially(database, programs, tuple(history), order, tables)
            self.assertEqual((repr(told), after, tables), (repr(tuple(due)), now, before))
            after["t"].clear()
            self.assertEqual(tables, before)
        self.assertEqual(serially(database, {}, (), (), before), ((), before))


class Watched(unittest.TestCase):

    def told_of(self, pair, history=None, last=None):
        desk = pair.desk
        programs = {name: desk.program(name) for name in desk.taken}
        prints = {name: footprint(made, desk.database) for name, made in programs.items()}
        return watch(desk.database, programs, prints, pair.model.first, pair.model.versions[pair.model.first],
                     desk.history() if history is None else history, plain_tables(desk.database, desk.version()) if last is None else last)

    def pair(self, seed, levels=("loose", "strict")):
        pair = Pair(random.Random("watch %s" % seed), levels=levels)
        for _ in range(30):
            pair.deed(self)
        return pair

    def test_histories_of_desks(self):
        found = {"ring": 0, "right": 0}
        for seed in range(120):
            pair = self.pair(seed, ("loose",))
            told = self.told_of(pair)
            prints = {name: footprint(made, pair.desk.database) for name, made in pair.model.programs.items()}
            ring = first_ring(pair.desk.history(), prints)
            self.assertEqual(told, ("right", first_order(pair.desk.history(), prints)) if ring is None else ("ring", ring))
            found[told[0]] += 1
        self.assertGreater(min(found.values()), 0)

    def test_with_one_thing_turned(self):
        counts = {}
        for seed in range(150):
            pair = self.pair(seed)
            rnd = pair.rnd
            history = pair.desk.history()
            if not history:
                continue
            place = rnd.randrange(len(history))
            run = history[place]
            due = None
            for part, bad in ((0, "none"), (0, 5), (1, ()), (1, None), (1, run[1][:-1] + (None,)), (2, "odd"), (2, None), (3, pair.model.first - 1), (3, run[4]), (3, True), (3, "a"),
                              (4, run[4] + 1), (4, run[4] - 1), (4, None), (5, run[5][:-1]), (5, run[5] + (None,)), (5, list(run[5]))):
                due = ("form", place)
                if part == 4 and bad == run[4] - 1 and bad == run[3] and run[2] == "loose" and not any([word[0] in ("set", "put", "drop") for word in pair.desk.program(run[0])[2]]):
                    continue
                turned = history[:place] + (run[:part] + (bad,) + run[part + 1:],) + history[place + 1:]
                self.assertEqual(self.told_of(pair, turned), due, (part, bad))
            for bad in (None, 5, (), run[:5], run + (None,), list(run)):
                self.assertEqual(self.told_of(pair, history[:place] + (bad,) + history[place + 1:]), ("form", place))
            for at in range(len(run[5])):
                odd = 7 if run[5][at] is None else None
                turned = history[:place] + (run[:5] + (run[5][:at] + (odd,) + run[5][at + 1:],),) + history[place + 1:]
                self.assertEqual(self.told_of(pair, turned), ("told", place, at))
                # What stands behind a run that is wrong does not count.
                self.assertEqual(self.told_of(pair, turned[:place + 1] + (None, 5)), ("told", place, at))
                counts["told"] = counts.get("told", 0) + 1
            for name, part in plain_tables(pair.desk.database, pair.desk.version()).items():
                last = plain_tables(pair.desk.database, pair.desk.version())
                if part:
                    spot = rnd.choice(list(part))
                    last[name][spot] = last[name][spot][:-1] + ("odd",)
                    self.assertEqual(self.told_of(pair, last=last), ("tables", name))
                    del last[name][spot]
                    self.assertEqual(self.told_of(pair, last=last), ("tables", name))
                    last["t"][99] = (99, "a", 1)
                    self.assertEqual(self.told_of(pair, last=last), ("tables", "t"))
                    del last[name]
                    self.assertEqual(self.told_of(pair, last=last), ("tables", "t"))
                    counts["tables"] = counts.get("tables", 0) + 1
        self.assertGreater(min(counts.values()), 50)

    def test_truth_values_are_no_numbers(self):
        desk = filled()
        desk.add(("p", ("int",), (("ask", "SELECT f FROM u"), ("ask", "SELECT count(*) FROM t WHERE a = 1"), ("put", "u", (col(0), ("value", "y"), YES)))))
        desk.run("p", (1,))
        run = desk.history()[0]
        self.assertEqual(run[5], (((True,),), ((1,),), None))
        programs = {"p": desk.program("p")}
        prints = {"p": footprint(programs["p"], desk.database)}
        tables, last = plain_tables(desk.database, 1), plain_tables(desk.database, 2)
        look = lambda told, end: watch(desk.database, programs, prints, 1, tables, (run[:5] + (told,),), end)
        self.assertEqual(look(run[5], last), ("right", (0,)))
        self.assertEqual(look((((1,),), ((1,),), None), last), ("told", 0, 0))
        self.assertEqual(look((((True,),), ((True,),), None), last), ("told", 0, 1))
        for name, spot, row in (("u", "y", (True, "y", True)), ("u", "y", (1, "y", 1)), ("free", 0, (True,))):
            bad = copy(last)
            if name == "free":
                spot = [at for at, told in bad["free"].items() if told == (1,)][0]
            bad[name][spot] = row
            self.assertEqual(look(run[5], bad), ("tables", name))
        turned = copy(last)
        turned["free"] = {at: row for at, row in enumerate(reversed(list(last["free"].values())))}
        self.assertEqual(look(run[5], turned), ("right", (0,)))

    def test_stale_runs(self):
        checked = 0
        for seed in range(170):
            pair = self.pair(seed)
            desk, history = pair.desk, pair.desk.history()
            prints = {name: footprint(desk.program(name), desk.database) for name in desk.taken}
            for place, run in enumerate(history):
                # The same run from each earlier snapshot: told as it would be there.
                for snapshot in range(pair.model.first, run[4]):
                    level = pair.rnd.choice(("loose", "strict"))
                    made = desk.program(run[0])
                    found, _, _ = plaindesk.plain(made, run[1], pair.model.versions[snapshot])
                    turned = history[:place] + ((run[0], run[1], level, snapshot, run[4], found),) + history[place + 1:]
                    due = self.staleness(pair, made, run[1], level, snapshot, run[4])
                    told = self.told_of(pair, turned)
                    commits = [pair_of for pair_of in desk.commits if pair_of[0] < run[4]]
                    one = Run(desk.database, made, run[1], level, snapshot)
                    self.assertIs(is_stale(level, snapshot, one.footprint(), commits), due is not None)
                    if due is not None:
                        self.assertEqual(told, ("stale", place) + due)
                        checked += 1
                    else:
                        self.assertNotEqual(told[:2], ("stale", place))
        self.assertGreater(checked, 100)

    def staleness(self, pair, made, given, level, snapshot, version):
        for entry in plaindesk.footprint(made, given):
            for other, spots in pair.model.written:
                if snapshot < other < version and (entry[0] == "w" or level == "strict"):
                    if entry[1:] in spots or (entry[0] == "a" and entry[1] in [spot[0] for spot in spots]):
                        return entry, other
        return None

    def test_runs_of_copies(self):
        desk = filled()
        desk.add(("see", ("int",), (("read", "t", P0),)))
        desk.add(("put", ("int",), (("put", "t", (P0, text("z"), num(1))),)))
        desk.allot(("loose", "loose"))
        desk.run("put", (1,))
        programs = {name: desk.program(name) for name in desk.taken}
        prints = {name: footprint(made, desk.database) for name, made in programs.items()}
        tables, last = plain_tables(desk.database, 1), plain_tables(desk.database, 2)
        see = lambda snapshot, version, told, level="loose": ("see", (1,), level, snapshot, version, (told,))
        put = desk.history()[0]
        old, new = (1, "a", 10), (1, "z", 1)
        for history, due in (((see(1, 1, old), put), ("right", (0, 1))), ((put, see(1, 1, old), see(2, 2, new)), ("right", (1, 0, 2))), ((put, see(2, 2, old)), ("told", 1, 0)),
                             ((see(2, 2, new), put), ("form", 0)), ((see(1, 1, old, "strict"), put), ("form", 0)), ((put[:4] + (1, (None,)), put), ("form", 0)),
                             ((put, see(1, 3, old)), ("right", (1, 0))), ((put, see(1, 3, old, "strict")), ("stale", 1, ("r", "t", 1), 2)), ((put, see(1, 4, old)), ("form", 1)), ((), ("tables", "t"))):
            self.assertEqual(watch(desk.database, programs, prints, 1, tables, history, last), due)
        self.assertEqual(watch(desk.database, programs, prints, 1, tables, (), tables), ("right", ()))


class Again(unittest.TestCase):

    def test_rounds(self):
        later = 0
        for seed in range(60):
            rnd = random.Random("rounds %d" % seed)
            desk = filled(rnd)
            database = desk.database
            tries = []
            for _ in range(rnd.randrange(7)):
                made = program(rnd, "p", 3)
                check_program(made, database)
                tries.append((made, plaindesk.values(rnd, made[1]), rnd.choice(("loose", "strict"))))
            commits = []
            start = database.version()
            told = rounds(database, commits, tuple(tries))
            self.assertLessEqual(len(told), max(len(tries), 0))
            later += len(told) > 1
            self.assertEqual(sorted([place for done in told for place, _, _ in done]), list(range(len(tries))))
            self.assertEqual([version for done in told for _, version, _ in done], list(range(start + 1, database.version() + 1)))
            self.assertEqual([version for version, _ in commits], list(range(start + 1, database.version() + 1)))
            left = list(range(len(tries)))
            for done in told:
                self.assertEqual(done[0][0], left[0])
                base = done[0][1] - 1
                tables = plaindesk.state(desk, base)
                ahead = []
                for place in left:
                    made, given, level = tries[place]
                    prints = plaindesk.footprint(made, given)
                    spots = [spot for other in ahead for spot in other]
                    stale = any([entry[1:] in spots or (entry[0] == "a" and entry[1] in [spot[0] for spot in spots]) for entry in prints if entry[0] == "w" or level == "strict"])
                    found = [pair for pair in done if pair[0] == place]
                    self.assertEqual(bool(found), not stale)
                    if found:
                        self.assertEqual(repr(found[0][2]), repr(plaindesk.plain(made, given, tables)[0]))
                        ahead.append({entry[1:] for entry in prints if entry[0] == "w"})
                left = [place for place in left if place not in [pair[0] for pair in done]]
        self.assertGreater(later, 15)

    def test_one_round(self):
        database = filled().database
        made = ("p", ("int",), (("read", "t", P0), ("set", "t", P0, ((2, op("add", col(3), num(1))),))))
        commits = []
        tries = [(7, (made, (1,), "strict")), (3, (made, (1,), "loose")), (5, (made, (2,), "loose"))]
        self.assertEqual(one_round(database, commits, tries), ((7, 2, ((1, "a", 10), None)), (5, 3, ((2, None, 20), None))))
        self.assertEqual([version for version, _ in commits], [2, 3])
        self.assertEqual(one_round(database, commits, tries[1:2]), ((3, 4, ((1, "a", 11), None)),))
        self.assertEqual((one_round(database, commits, []), rounds(database, commits, ()), len(commits)), ((), (), 3))

    def test_invariants(self):
        database = filled().database
        tables = plain_tables(database, 1)
        good, bad, odd = "SELECT a FROM t WHERE n > 50", "SELECT a FROM t WHERE n < 15", "SELECT 1 / (n - 10) FROM t"
        self.assertEqual([holds(database, words, tables) for words in (good, bad, odd)], [True, False, False])
        rise = ("p", ("int",), (("set", "t", P0, ((2, num(99)),)),))
        still = ("q", ("int",), (("read", "t", P0),))
        for made, given, words, due in ((rise, (1,), good, False), (rise, (7,), good, True), (still, (1,), good, True), (rise, (1,), bad, True), (rise, (2,), bad, True)):
            self.assertIs(keeps_alone(database, made, given, words, tables), due)
        self.assertEqual(tables, plain_tables(database, 1))
        self.assertIsNone(broken(database, good, 0))
        database.commit([("t", [(1, "a", 10)], [(1, "a", 60)])])
        database.commit([])
        database.commit([("t", [(1, "a", 60)], [(1, "a", 6)])])
        self.assertEqual([broken(database, good, first) for first in (0, 1, 2, 3, 4, 5)], [2, 2, 2, 3, None, None])
        self.assertEqual([broken(database, odd, first) for first in (0, 1, 2)], [1, 1, 2])


class Views(unittest.TestCase):

    def test_both_ways_tell_the_same(self):
        for seed in range(60):
            rnd = random.Random("views %d" % seed)
            desk = filled(rnd)
            database = desk.database
            for at in range(rnd.randrange(4)):
                made = program(rnd, "p", 3)
                check_program(made, database)
                one = Run(database, made, plaindesk.values(rnd, made[1]), "loose", database.version())
                one.finish()
                database.commit(one.changes())
            made = program(rnd, "p", 5)
            one = Run(database, made, plaindesk.values(rnd, made[1]), "loose", rnd.randrange(1, database.version() + 1))
            one.finish()
            for name in VIEWS:
                tables = {form[0]: (form, one.seen.rows(form[0])) for form in database.schemas()}
                due = sorted_rows(bag(database.view_of(name).plan, [], tables))
                self.assertEqual(rows_in(database, name, one.seen), due)
                self.assertEqual(rows_back(database, name, one.seen), due)

    def test_faults_of_sums_and_refusals(self):
        database = filled().database
        seen = Seen(database, 1)
        seen.write("t", 7, (7, "z", BIG))
        seen.write("t", 8, (8, "z", BIG))
        for told in (rows_in(database, "v", seen), rows_back(database, "v", seen)):
            self.assertEqual(told, [("a", 10), ("z", fault(4)), (None, 20)])
            told.clear()
        self.assertEqual(database.kept("v"), [("a", 10), (None, 20)])
        for action in (rows_in, rows_back):
            for name in ("t", "none"):
                with self.assertRaises(NoSuch):
                    action(database, name, seen)


if __name__ == "__main__":
    unittest.main()
