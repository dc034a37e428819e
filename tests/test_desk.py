"""Desks: deeds and their refusals, logs, images, recovery, copies and sessions."""

import random
import unittest

import plaindesk
from entablature.copies import Copy, Session
from entablature.desk import Desk
from entablature.errors import BadForm, BadKey, BadKind, BadName, BadText, Behind, NoSuch, PeristyleError, Stale, TooMuch
from entablature.log import entry, entry_at, recovered
from entablature.octets import read
from entablature.programs import footprint
from entablature.serial import plain_tables
from plaindesk import FREE, KEYS, T, U, VIEWS, Pair, filled
from short import col, num, op, text

P0, P1 = ("param", 0), ("param", 1)
READ = ("look", ("int",), (("read", "t", P0), ("ask", "SELECT * FROM v")))
WRITE = ("move", ("int", "text"), (("read", "t", P0), ("set", "t", P0, ((2, op("add", col(4), num(1))),)), ("put", "u", (col(4), P1, ("const", "bool", True)))))
ALL = ((("t", "all"), ("u", "all")), ("look",))


def desk():
    told = filled()
    told.add(READ)
    told.add(WRITE)
    return told


def tells(one):
    """All that a desk tells of itself."""
    tables = plain_tables(one.database, one.version())
    return repr((one.version(), one.first(), one.history(), one.schemas(), one.views(), one.allotment(), [one.program(name) for name in one.taken],
                 one.rights, {name: sorted(rows.items(), key=repr) for name, rows in tables.items()},
                 [one.database.kept(name) for name, _ in one.views()], one.commits))


def again(octets):
    one = Desk()
    used = recovered(one, octets)
    return one, used


class Deeds(unittest.TestCase):

    def test_a_new_desk(self):
        one = Desk()
        self.assertEqual((one.runs, one.commits, one.version(), one.first(), one.history(), one.schemas(), one.views(), one.allotment(), one.log()),
                         ({}, [], 0, 0, (), (), (), (), []))
        self.assertEqual(one.database.version(), 0)
        for call in (lambda: one.begin("p", ()), lambda: one.program("p"), lambda: one.level("p"), lambda: one.step(0), lambda: one.leave(0), lambda: one.commit(0),
                     lambda: one.look("ann", "p", ()), lambda: one.run("p", ())):
            with self.assertRaises(NoSuch):
                call()
        one.allot(())
        with self.assertRaises(BadForm):
            one.allot(("strict",))

    def test_tables_and_filling(self):
        one = Desk()
        one.create(T)
        for bad, error in ((("t",), BadForm), (T, BadName), (("t", T[1], ((9,),)), BadForm)):
            with self.assertRaises(error):
                one.create(bad)
        self.assertEqual(one.fill([("t", [], [[1, "a", 2]])]), 1)
        self.assertEqual(one.fill((("t", ((1, "a", 2),), ((3, None, 2), (4, "b", 1))),)), 2)
        for bad, error in (([("u", [], [])], NoSuch), ([("t", [], [(1, "a")])], BadForm), ([("t", [(1, "a", 2)], [])], NoSuch), ([("t", [], [(3, "x", 0)])], BadKey),
                           ([("t", [], [(at, "x", 0) for at in range(10, 2100)])], TooMuch)):
            with self.assertRaises(error):
                one.fill(bad)
        self.assertEqual(one.version(), 2)
        one.view("v", VIEWS["v"])
        for name, words, error in (("v", "SELECT a FROM t", BadName), ("t", "SELECT a FROM t", BadName), ("z", "SELECT", BadText), ("z", "SELECT a FROM v", BadName),
                                   ("z", "SELECT a FROM t ORDER BY a", BadKind)):
            with self.assertRaises(error):
                one.view(name, words)
        self.assertEqual(one.views(), (("v", VIEWS["v"]),))
        self.assertEqual(one.database.kept("v"), [("b", 1), (None, 2)])

    def test_nothing_is_made_behind_a_program(self):
        one = desk()
        before = tells(one), one.log()
        for bad in (T, ("late", T[1], ()), ("odd",)):
            with self.assertRaises(BadKey):
                one.create(bad)
        for bad in ([], [("t", [], [(9, "a", 1)])], [("nothing", [], [])]):
            with self.assertRaises(BadKey):
                one.fill(bad)
        self.assertEqual((tells(one), one.log()), before)
        one.view("late", "SELECT a FROM t")
        self.assertEqual(one.views()[-1], ("late", "SELECT a FROM t"))

    def test_programs(self):
        one = filled()
        one.add(READ)
        self.assertEqual((one.program("look"), one.level("look"), one.first()), (READ, "strict", 1))
        for bad, error in ((("look", (), ()), BadForm), (("look", ("int",), (("read", "z", P0),)), NoSuch), (("look", ("int",), (("read", "free", P0),)), BadKey),
                           (("look", ("text",), (("read", "t", P0),)), BadKind), (READ, BadName), (("look", ("int",), (("ask", "SELECT z FROM t"),)), BadName)):
            with self.assertRaises(error):
                one.add(bad)
        for at in range(7):
            one.add(("p%d" % at,) + READ[1:])
        with self.assertRaises(BadName):
            one.add(READ)
        with self.assertRaises(TooMuch):
            one.add(("ninth",) + READ[1:])
        self.assertEqual(one.allotment(), ("strict",) * 8)
        for bad in (["loose"] * 8, ("loose",) * 7, ("loose",) * 9, ("loose",) * 7 + ("free",), ("loose",) * 7 + (None,), None, 5):
            with self.assertRaises(BadForm):
                one.allot(bad)
        one.allot(("loose", "strict") * 4)
        self.assertEqual((one.allotment(), one.level("p0"), one.level("look")), (("loose", "strict") * 4, "strict", "loose"))
        for name in ("p7", "v", "t"):
            with self.assertRaises(NoSuch):
                one.level(name)

    def test_begin_and_its_refusals(self):
        one = desk()
        for name, values, snapshot, error in (("none", 5, 9, NoSuch), ("look", (1,), 0, NoSuch), ("look", (1,), 2, NoSuch), ("look", (1,), -1, NoSuch), ("look", 5, 9, NoSuch),
                                              ("look", (), None, BadForm), ("look", ("x",), 1, BadForm), ("look", (None,), None, BadForm), ("look", [1], None, BadForm)):
            with self.assertRaises(error):
                one.begin(name, values, snapshot=snapshot)
        numbers = [one.begin("look", (1,)), one.begin("look", (2,), snapshot=1), one.begin("move", (1, "q"))]
        self.assertEqual((len(set(numbers)), sorted(one.runs)), (3, sorted(numbers)))
        one.leave(numbers[0])
        with self.assertRaises(NoSuch):
            one.leave(numbers[0])
        with self.assertRaises(NoSuch):
            one.step(numbers[0])
        self.assertNotIn(one.begin("look", (1,)), numbers)
        self.assertEqual(one.step(numbers[1]), (2, None, 20))
        with self.assertRaises(BadForm):
            one.commit(numbers[1])
        self.assertEqual(one.step(numbers[1], choice=3, budget=4, batch=1, workers=2, turns=[1]), (("a", 10), (None, 20)))
        with self.assertRaises(BadForm):
            one.step(numbers[1])
        self.assertEqual(one.commit(numbers[1]), 2)
        for number in (numbers[1], 99, -1):
            with self.assertRaises(NoSuch):
                one.commit(number)

    def test_run_and_history(self):
        one = desk()
        self.assertEqual(one.run("move", (1, "q")), (2, ((1, "a", 10), None, None)))
        one.allot(("loose", "strict"))
        self.assertEqual(one.run("look", (1,)), (3, ((1, "a", 11), (("a", 11), (None, 20)))))
        self.assertEqual(one.run("look", (1,), snapshot=1)[1][0], (1, "a", 10))
        with self.assertRaises(Stale):
            one.run("move", (1, "q"), snapshot=1)
        self.assertEqual(one.runs, {})
        told = one.history()
        self.assertEqual([run[:5] for run in told], [("move", (1, "q"), "strict", 1, 2), ("look", (1,), "loose", 2, 3), ("look", (1,), "loose", 1, 4)])
        self.assertEqual(one.commits[0], (2, ((("r", "t", 1),), (("r", "t", 1), ("w", "t", 1)), (("w", "u", "q"),))))

    def test_the_level_is_that_at_the_commit(self):
        one = desk()
        late = [one.begin("look", (1,)) for _ in range(2)]
        one.run("move", (1, "q"))
        for number in late:
            one.step(number)
            one.step(number)
        with self.assertRaises(Stale):
            one.commit(late[0])
        one.allot(("loose", "loose"))
        self.assertEqual(one.commit(late[1]), 3)
        self.assertEqual(one.history()[-1][2:4], ("loose", 1))

    def test_snapshots_ahead_of_a_program_are_stale(self):
        one = desk()
        one.allot(("loose", "loose"))
        early = one.begin("look", (1,))
        one.run("look", (2,))
        one.add(("third",) + READ[1:])
        one.step(early)
        one.step(early)
        with self.assertRaises(Stale):
            one.commit(early)
        self.assertNotIn(early, one.runs)
        with self.assertRaises(NoSuch):
            one.begin("look", (1,), snapshot=1)
        one.run("look", (1,), snapshot=2)
        self.assertEqual((one.first(), one.version()), (1, 3))

    def test_long_tables(self):
        for many in (1996, 1998, 1999, 2000):
            one = Desk()
            one.create(T)
            one.fill([("t", [], [(at, "x", at) for at in range(many)])])
            one.add(("more", ("int", "int"), (("put", "t", (P0, text("y"), col(0))), ("put", "t", (P1, text("y"), col(0))), ("ask", "SELECT count(*) FROM t"))))
            one.allot(("loose",))
            first, second = one.begin("more", (-1, -2)), one.begin("more", (-3, 5))
            for _ in range(3):
                told = one.step(first), one.step(second)
            self.assertEqual(told, (((many + 2,),), ((many + 1,),)))
            rows = many
            for number, more in ((first, 2), (second, 1)):
                if rows + more <= 2000:
                    one.commit(number)
                    rows += more
                    continue
                before = tells(one), one.log()
                with self.assertRaises(TooMuch):
                    one.commit(number)
                self.assertEqual((tells(one), one.log(), number in one.runs), before + (False,))

    def test_what_is_handed_in_may_be_changed(self):
        one = Desk()
        one.create(T)
        rows = [[1, "a", 2]]
        changes = [["t", [], rows]]
        one.fill(changes)
        log = one.log()
        rows[0][1] = "b"
        rows.append([2, "c", 3])
        changes.clear()
        self.assertEqual(one.log(), log)
        one.log().clear()
        one.image().clear()
        self.assertEqual(one.log(), log)
        told = again(log)[0]
        self.assertEqual(tells(told), tells(one))
        octets = one.log()
        used = recovered(Desk(), octets)
        self.assertEqual((used, octets), (len(log), log))


class Drawn(unittest.TestCase):

    def test_deeds_side_by_side(self):
        refused = 0
        for seed in range(120):
            rnd = random.Random("deeds %d" % seed)
            pair = Pair(rnd)
            for at in range(25):
                pair.deed(self)
                if at % 4 == 0:
                    pair.hold(self)
            pair.hold(self)
            refused += pair.refused
        self.assertGreater(refused, 60)

    def test_logs_cut_anywhere(self):
        for seed in range(25):
            rnd = random.Random("logs %d" % seed)
            pair = Pair(rnd)
            known = [(len(pair.desk.log()), tells(pair.desk))]
            for at in range(20):
                if at == 10:
                    pair.desk.give("ann", ALL)
                else:
                    pair.deed(self)
                if len(pair.desk.log()) != known[-1][0]:
                    known.append((len(pair.desk.log()), tells(pair.desk)))
            log = pair.desk.log()
            for cut in [known[-1][0], known[0][0]] + [rnd.randrange(known[0][0], len(log) + 1) for _ in range(6)]:
                one, used = again(log[:cut])
                due = max([pair for pair in known if pair[0] <= cut])
                self.assertEqual((used, tells(one)), due)
                self.assertEqual(one.log(), log[:used])
            # Both go on alike.
            one, _ = again(log)
            for name, made in pair.model.programs.items():
                given = plaindesk.values(rnd, made[1])
                self.assertEqual(repr(one.run(name, given)), repr(pair.desk.run(name, given)))
            self.assertEqual((one.log(), one.image(), tells(one)), (pair.desk.log(), pair.desk.image(), tells(pair.desk)))

    def test_each_cut_of_one_log(self):
        one = desk()
        one.run("move", (1, "q"))
        one.give("ann", ALL)
        log = one.log()
        ends = [0]
        while ends[-1] < len(log):
            ends.append(entry_at(log, ends[-1])[2])
        for cut in range(len(log) + 1):
            told, used = again(log[:cut])
            self.assertEqual(used, max([end for end in ends if end <= cut]))
            self.assertEqual(told.log(), log[:used])
        for at in range(len(log)):
            bad = list(log)
            bad[at] = (bad[at] + 1) % 256
            told, used = again(bad)
            self.assertLessEqual(used, max([end for end in ends if end <= at]))
            self.assertEqual(told.log(), log[:used])

    def test_images_at_several_moments(self):
        for seed in range(25):
            rnd = random.Random("images %d" % seed)
            pair = Pair(rnd)
            pair.desk.give("bob", ((("t", op("lt", col(0), num(3))),), ("p0",)))
            for _ in range(rnd.randrange(12)):
                pair.deed(self)
            for number in list(pair.under):
                pair.desk.leave(number)
            pair.under = {}
            version, image, at = pair.desk.version(), pair.desk.image(), len(pair.desk.log())
            pair.model.floor = version
            for _ in range(12):
                pair.deed(self)
            one, used = again(image + pair.desk.log()[at:])
            self.assertEqual(used, len(image) + len(pair.desk.log()) - at)
            self.assertEqual(one.log(), image + pair.desk.log()[at:])
            self.assertEqual((one.version(), one.first()), (pair.desk.version(), version))
            self.assertEqual(repr(one.history()), repr(tuple([run for run in pair.desk.history() if run[4] > version])))
            self.assertEqual(one.image(), pair.desk.image())
            for name, made in pair.model.programs.items():
                given = plaindesk.values(rnd, made[1])
                self.assertEqual(repr(one.run(name, given)), repr(pair.desk.run(name, given)))
            self.assertEqual(one.image(), pair.desk.image())


class Entries(unittest.TestCase):
    """Logs with an entry that a desk must refuse."""

    def setUp(self):
        one = desk()
        one.allot(("loose", "strict"))
        one.run("move", (1, "q"))
        one.run("look", (1,))
        self.log = one.log()
        self.told = again(self.log)[0]

    def refuse(self, kind, payload, log=None):
        """Holds that an entry behind a log is not taken, and that nothing is changed by it."""
        log = self.log if log is None else log
        one, used = again(log + entry(kind, payload) + entry(8, ("ann", ALL)))
        self.assertEqual(used, len(log), (kind, payload))
        self.assertEqual((one.log(), tells(one)), (log, tells(again(log)[0])))
        before = tells(one), one.log()
        with self.assertRaises(PeristyleError):
            one.redo(kind, payload)
        self.assertEqual((tells(one), one.log()), before)

    def test_what_is_taken(self):
        commit = ("look", (1,), "loose", 1, ((1, "a", 10), (("a", 10), (None, 20))), ())
        for kind, payload in ((2, ("third",) + READ[1:]), (3, ("strict", "loose")), (4, commit), (6, ("late", "SELECT a FROM t")), (8, ("ann", ALL)),
                              (4, ("move", (2, "y"), "strict", 3, ((2, None, 20), None, None), (("t", ((2, None, 20),), ((2, None, 21),)), ("u", (), ((20, "y", True),)))))):
            log = self.log + entry(kind, payload)
            one, used = again(log)
            self.assertEqual((used, one.log()), (len(log), log))

    def test_odd_forms(self):
        odd = (None, True, 0, "", (), (None,), ("t",), (1, 2), (("t", 5, ()),), (("t", (), ((1,),)),), ((), (), ()), ((),), ("loose",), ("loose", "odd"), (("look",),),
               ("look", (1,), "loose", 1, (), 5), ("look", (1,), "loose", True, (), ()), (1, 2, 3, 4, 5, 6), ("a", "b", "c"), ("ann", ((), 5)), (5, ALL), ("", ALL), ("a" * 21, ALL), ("a\n", ALL))
        for kind in (0, 1, 2, 3, 4, 5, 6, 7, 8, 9, 255):
            for payload in odd:
                self.refuse(kind, payload)

    def test_tables_and_fillings_behind_a_program(self):
        self.refuse(1, (("late", T[1], ()),))
        self.refuse(7, (("t", (), ((9, "a", 1),)),))
        self.refuse(7, ())

    def test_tables_views_fillings(self):
        one = filled()
        log = one.log()
        for kind, payload in ((1, (T,)), (1, (("v", T[1], ()),)), (1, (("x", (), ()),)), (1, (T, U)), (6, ("t", "SELECT 1")), (6, ("z", "SELECT")), (6, ("z", "SELECT a FROM v")), (6, ("Z", "SELECT 1")),
                              (7, (("t", (), ((1, "a", 1),)),)), (7, (("t", ((9, "a", 1),), ()),)), (7, (("t", (), ((9, "a", True),)),)), (7, (("z", (), ()),)), (7, (("t", (), (5,)),)),
                              (7, (("t", 5, ()),)), (7, ((5, (), ()),)), (7, (("t", ()),)), (2, READ + (1,)), (2, ("p", ("int",), (("read", "z", P0),))), (3, ("strict",)),
                              (4, ("look", (1,), "strict", 1, (), ())), (8, ("ann", ((("z", "all"),), ()))), (8, ("ann", ((("t", col(0)),), ())))):
            self.refuse(kind, payload, log)
        taken = log + entry(7, (("t", ((1, "a", 10),), ((9, "a", 1), (8, None, 1))),)) + entry(7, ()) + entry(1, (("late", T[1], ()),)) + entry(3, ()) + entry(6, ("z", "SELECT 1"))
        told, used = again(taken)
        self.assertEqual((used, told.version()), (len(taken), 3))
        self.assertEqual(told.log(), taken)

    def test_commits(self):
        good = ("look", (1,), "loose", 1, ((1, "a", 10), (("a", 10), (None, 20))), ())
        moved = ("move", (2, "y"), "strict", 2, ((2, None, 20), None, None), (("t", ((2, None, 20),), ((2, None, 21),)), ("u", (), ((20, "y", True),))))
        for at, bad in ((0, "none"), (0, "move"), (1, (2,)), (1, ()), (1, ("x",)), (1, (True,)), (2, "strict"), (2, "odd"), (3, 0), (3, 4), (3, -1), (3, 3),
                        (4, ((1, "a", 10),)), (4, ((True, "a", 10), (("a", 10), (None, 20)))), (4, ((1, "a", 10), (("a", 11), (None, 20)))), (4, ((1, "a", 10), None)),
                        (5, (("t", (), ()),)), (5, (("t", (), ((5, "a", 1),)),))):
            self.refuse(4, good[:at] + (bad,) + good[at + 1:])
        for at, bad in ((3, 1), (1, (1, "y")), (5, moved[5][:1]), (5, moved[5][::-1]), (5, (("t", ((2, None, 20),), ((2, None, 21),)), ("u", (), ((20, "y", 1),)))), (5, ())):
            if (at, bad) == (3, 1):
                # A run of a strict program that is not stale may have an earlier snapshot.
                log = self.log + entry(4, moved[:at] + (bad,) + moved[at + 1:])
                self.assertEqual(again(log)[1], len(log))
                continue
            self.refuse(4, moved[:at] + (bad,) + moved[at + 1:])
        # What was read has been written behind the snapshot.
        stale = ("move", (1, "z"), "strict", 1, ((1, "a", 10), None, None), (("t", ((1, "a", 10),), ((1, "a", 11),)), ("u", (), ((10, "z", True),))))
        self.refuse(4, stale)
        # A snapshot that lies ahead of the program that was taken last.
        self.refuse(4, good, self.log + entry(2, ("third",) + READ[1:]))

    def test_too_many_rows(self):
        one = Desk()
        one.create(T)
        one.fill([("t", [], [(at, "x", at) for at in range(1999)])])
        one.add(("more", ("int",), (("put", "t", (P0, text("y"), num(1))),)))
        put = ("more", (-1,), "strict", 1, (None,), (("t", (), ((-1, "y", 1),)),))
        log = one.log() + entry(4, put)
        self.assertEqual(again(log)[1], len(log))
        self.refuse(4, ("more", (-2,), "strict", 2, (None,), (("t", (), ((-2, "y", 1),)),)), log)

    def test_programs_and_levels(self):
        for payload in (READ, ("x", ("int",), ()), ("x", ("int",), (("read", "free", P0),)), ("x", ("int",), (("ask", "SELECT"),))):
            self.refuse(2, payload)
        log = self.log
        for at in range(6):
            log = log + entry(2, ("p%d" % at,) + READ[1:])
        self.assertEqual(again(log)[1], len(log))
        self.refuse(2, ("ninth",) + READ[1:], log)
        self.refuse(3, ("loose",) * 7, log)
        self.refuse(3, (("loose",) * 8,), log)

    def test_images(self):
        image = self.told.image()
        _, payload, end = entry_at(image, 0)
        self.assertEqual(end, len(image))
        self.assertEqual(payload, (3, (T, U, FREE), (((1, "a", 11), (2, None, 20)), ((5, "x", True), (10, "q", True)),
                                                     ((1,), (1,), (None,))), tuple(VIEWS.items()), ((READ, "loose"), (WRITE, "strict")), ()))
        one, used = again(image)
        self.assertEqual((used, one.log(), one.image(), one.version(), one.first(), one.history()), (len(image), image, image, 3, 3, ()))
        self.refuse(5, payload)
        self.refuse(5, payload, image)
        self.refuse(5, payload, Desk().log() + entry(3, ()))
        with self.assertRaises(NoSuch):
            one.begin("look", (1,), snapshot=2)
        self.assertEqual(one.database.store.rows("t", 2), [])

    def test_odd_images(self):
        _, payload, _ = entry_at(self.told.image(), 0)
        version, schemas, rows, views, programs, _ = payload
        for at, bad in ((0, -1), (0, 100001), (0, True), (0, 0), (0, None), (1, schemas[:2]), (1, schemas + (T,)), (1, schemas[:2] + (("z", (), ()),)), (1, 5), (2, rows[:2]), (2, rows + ((),)), (2, 5),
                        (2, (((1, "a", 11),) * 2,) + rows[1:]), (2, (((1, "a"),),) + rows[1:]), (2, (5,) + rows[1:]), (2, ((5,),) + rows[1:]), (2, (rows[0][::-1],) + rows[1:]),
                        (2, (tuple([(at, "a", 1) for at in range(2001)]),) + rows[1:]), (3, views + views[:1]), (3, (("t", "SELECT 1"),)), (3, (("z", "SELECT"),)), (3, (5,)), (3, ((1, 2),)), (3, ()),
                        (4, programs + programs[:1]), (4, ((READ, "odd"),)), (4, ((READ,),)), (4, (READ,)), (4, tuple([(("p%d" % at,) + READ[1:], "loose") for at in range(9)])), (4, ((READ, 5),)),
                        (5, (("ann", ALL), ("ann", ALL))), (5, (("", ALL),)), (5, (("ann", 5),)), (5, (("ann", ((("z", "all"),), ())),)), (5, 5)):
            told = payload[:at] + (bad,) + payload[at + 1:]
            one, used = again(entry(5, told))
            self.assertEqual((used, one.log(), tells(one)), (0, [], tells(Desk())), (at, bad))
            with self.assertRaises(PeristyleError):
                one.redo(5, told)
            one.create(T)
        for told in (payload[:5], payload + ((),), None):
            self.assertEqual(again(entry(5, told))[1], 0)
        empty = (0, schemas, ((), (), ()), views, programs, (("ann", ALL), ("bob", ALL)))
        one, used = again(entry(5, empty))
        self.assertEqual((one.version(), one.first(), one.log()), (0, 0, entry(5, empty)))
        late, used = again(entry(5, (100000,) + payload[1:]))
        self.assertEqual((late.version(), late.first()), (100000, 100000))
        self.assertEqual(late.run("look", (1,))[0], 100001)
        self.assertEqual(again(late.image())[1], 0)

    def test_an_image_without_programs(self):
        one = filled()
        told, _ = again(one.image())
        self.assertEqual((told.first(), told.version()), (1, 1))
        told.create(("late", T[1], T[2]))
        self.assertEqual(told.fill([("late", [], [(1, "a", 1)])]), 2)
        self.assertEqual(told.first(), 2)
        told.add(READ)
        told.run("look", (1,))
        self.assertEqual(told.first(), 2)
        self.assertEqual(again(told.log())[1], len(told.log()))


class Copies(unittest.TestCase):

    def test_pieces(self):
        rnd = random.Random(3)
        for most in (1, 2, 7, 50, 100000):
            pair = Pair(random.Random("copy"))
            for _ in range(20):
                pair.deed(self)
            log = pair.desk.log()
            copy = Copy(Desk())
            self.assertIsInstance(copy.desk, Desk)
            at = 0
            while at < len(log):
                many = rnd.randrange(1, most + 1)
                copy.take(log[at:at + many])
                at += many
                due, _ = again(log[:at])
                if most > 1 or at % 97 == 0:
                    self.assertEqual((copy.version(), copy.desk.log()), (due.version(), due.log()))
            self.assertEqual(tells(copy.desk), tells(pair.desk))

    def test_what_is_not_taken_ends_a_copy(self):
        log = desk().log()
        for bad in (entry(9, ()), entry(7, ()), entry(3, ())[:-1] + [1]):
            copy = Copy(Desk())
            copy.take(log + bad)
            copy.take(entry(8, ("ann", ALL)))
            self.assertEqual((copy.desk.log(), copy.desk.rights), (log, {}))

    def test_runs_of_copies(self):
        one = desk()
        copy = Copy(Desk())
        with self.assertRaises(NoSuch):
            copy.run("look", (1,))
        copy.take(one.log())
        session = Session()
        for name, values, error in (("none", (), NoSuch), ("look", (1,), BadKind), ("move", (1, "q"), BadKind)):
            with self.assertRaises(error):
                copy.run(name, values, session)
        one.allot(("loose", "loose"))
        session.saw(one.run("move", (1, "q"))[0])
        log = one.log()
        copy.take(log[len(copy.desk.log()):-3])
        self.assertEqual((copy.version(), copy.desk.allotment()), (1, ("loose", "loose")))
        with self.assertRaises(BadKind):
            copy.run("move", (1, "q"), session)
        for values in ((1,), (), None):
            with self.assertRaises(Behind):
                copy.run("look", values, session)
        self.assertEqual(session.token, 2)
        told = ((1, "a", 10), (("a", 10), (None, 20)))
        self.assertEqual(copy.run("look", (1,)), ("look", (1,), "loose", 1, 1, told))
        other = Session()
        for values in ((), ("x",), [1]):
            with self.assertRaises(BadForm):
                copy.run("look", values, other)
        self.assertEqual(other.token, 0)
        copy.run("look", (1,), other)
        self.assertEqual(other.token, 1)
        copy.take(log[-3:])
        self.assertEqual(copy.run("look", (1,), session), ("look", (1,), "loose", 2, 2, ((1, "a", 11), (("a", 11), (None, 20)))))
        self.assertEqual((copy.version(), copy.desk.log()), (2, log))

    def test_footprints_of_a_recovered_desk(self):
        one = desk()
        told, _ = again(one.log())
        for name in ("look", "move"):
            self.assertEqual(footprint(told.program(name), told.database), footprint(one.program(name), one.database))
        self.assertEqual(read(one.log()[5:entry_at(one.log(), 0)[2] - 2]), (T,))
        self.assertEqual(sorted(KEYS), ["t", "u"])


if __name__ == "__main__":
    unittest.main()
