"""Histories: graphs, orders, rings and splits in rings, held against plain searches; what the web promises of them."""

import itertools
import random
import unittest

import plaindesk
from entablature.copies import Copy, Session, only_reads
from entablature.desk import Desk
from entablature.errors import Behind, PeristyleError
from entablature.history import first_order, first_ring, graph, is_order, is_ring, keeps, split_in
from entablature.played import runs_of, sessions_of, steps_of
from entablature.programs import footprint, run_footprint, shape
from entablature.serial import plain_tables, serially
from entablature.splits import is_kept, needed, split
from entablature.watch import watch
from plaindesk import Pair, filled
from short import num, text

P0, P1 = ("param", 0), ("param", 1)


def plain_graph(history, footprints, sessions=()):
    """The edges, by the words of the document."""
    def of(run, words):
        return [entry for entries in run_footprint(footprints[run[0]], run[1]) for entry in entries if entry[0] in words]

    found = []
    for a, b in itertools.permutations(range(len(history)), 2):
        one, other = history[a], history[b]
        sorts = []
        if one[4] < other[4] and any([x[1:] == y[1:] for x in of(one, "w") for y in of(other, "w")]):
            sorts.append("ww")
        if one[4] <= other[3] and any([x[1] == y[1] and (y[0] == "a" or x[2] == y[2]) for x in of(one, "w") for y in of(other, "ra")]):
            sorts.append("wr")
        if other[4] > one[3] and any([x[1] == y[1] and (y[0] == "a" or x[2] == y[2]) for x in of(other, "w") for y in of(one, "ra")]):
            sorts.append("rw")
        if any([session[at:at + 2] == (a, b) for session in sessions for at in range(len(session))]):
            sorts.append("so")
        if sorts:
            found.append((a, b, tuple(sorts)))
    return found


def plain_rings(edges, many):
    """The shortest rings, each from its least place."""
    pairs = {(a, b) for a, b, _ in edges}
    for size in range(2, many + 1):
        found = [ring for ring in itertools.permutations(range(many), size) if ring[0] == min(ring) and
                 all([(ring[at - 1], ring[at]) in pairs for at in range(size)])]
        if found:
            return sorted(found)
    return []


def plain_order(edges, many):
    for order in itertools.permutations(range(many)):
        if all([order.index(a) < order.index(b) for a, b, _ in edges]):
            return order
    return None


def drawn_footprints(rnd):
    told = {}
    for name in "pqs":
        entries = []
        for _ in range(rnd.randrange(1, 4)):
            entries.append(tuple([rnd.choice((("r", "t", P0), ("w", "t", P0), ("r", "t", ("value", 1)), ("w", "t", ("value", 2)), ("a", "t"), ("a", "u"), ("w", "u", ("value", "x"))))
                                  for _ in range(rnd.randrange(3))]))
        told[name] = tuple(entries)
    return told


def drawn_history(rnd, footprints, many):
    """Runs with snapshots and versions that fit, in any order; whether some would be stale counts for nothing."""
    runs = []
    version = 4
    for _ in range(many):
        name = rnd.choice("pqs")
        values = (rnd.choice((1, 2, 3)),)
        snapshot = rnd.randrange(max(4, version - 4), version + 1)
        writes = [entry for entries in footprints[name] for entry in entries if entry[0] == "w"]
        if not writes and rnd.random() < 0.5:
            runs.append((name, values, "loose", snapshot, snapshot, ()))
            continue
        version += 1
        runs.append((name, values, rnd.choice(("loose", "strict")), snapshot, version, ()))
    rnd.shuffle(runs)
    return tuple(runs)


def drawn_sessions(rnd, many):
    places = rnd.sample(range(many), many)
    cut = rnd.randrange(many + 1)
    return rnd.choice(((), (tuple(places[:cut]),), (tuple(places[:cut]), tuple(places[cut:]))))


class Graphs(unittest.TestCase):

    def test_each_sort(self):
        prints = {"r": ((("r", "t", P0),),), "w": ((("w", "t", P0),),), "a": ((("a", "t"),),), "b": ((("r", "t", P0), ("w", "t", P0)),)}
        run = lambda name, value, snapshot, version: (name, (value,), "loose", snapshot, version, ())
        for one, other, due in ((run("w", 1, 0, 1), run("w", 1, 1, 2), [(0, 1, ("ww",))]), (run("w", 1, 0, 2), run("w", 1, 0, 1), [(1, 0, ("ww",))]),
                                (run("w", 1, 0, 1), run("w", 2, 1, 2), []), (run("w", 1, 0, 1), run("r", 1, 1, 2), [(0, 1, ("wr",))]), (run("w", 1, 0, 1), run("r", 1, 0, 2), [(1, 0, ("rw",))]),
                                (run("w", 1, 0, 1), run("r", 2, 1, 2), []), (run("w", 1, 0, 1), run("a", 9, 1, 2), [(0, 1, ("wr",))]), (run("a", 9, 1, 1), run("w", 1, 1, 2), [(0, 1, ("rw",))]),
                                (run("w", 1, 0, 1), run("a", 9, 1, 1), [(0, 1, ("wr",))]), (run("w", 1, 0, 1), run("a", 9, 0, 0), [(1, 0, ("rw",))]),
                                (run("b", 1, 0, 1), run("b", 1, 1, 2), [(0, 1, ("ww", "wr", "rw"))]), (run("b", 1, 0, 1), run("b", 1, 0, 2), [(0, 1, ("ww", "rw")), (1, 0, ("rw",))])):
            self.assertEqual(graph((one, other), prints), due)
        both = (run("r", 1, 0, 1), run("r", 1, 1, 2))
        self.assertEqual(graph(both, prints, ((1, 0),)), [(1, 0, ("so",))])
        self.assertEqual(graph(both, prints, ((0,), (1,))), [])
        self.assertEqual((first_order(both, prints, ((1, 0),)), first_ring(both, prints, ((1, 0),))), ((1, 0), None))
        self.assertEqual((graph((), {}), first_order((), {}), first_ring((), {})), ([], (), None))

    def test_drawn_histories(self):
        rings = 0
        rnd = random.Random(1)
        for _ in range(600):
            prints = drawn_footprints(rnd)
            history = drawn_history(rnd, prints, rnd.randrange(0, 7))
            many = len(history)
            sessions = drawn_sessions(rnd, many) if many else ()
            edges = plain_graph(history, prints, sessions)
            self.assertEqual(graph(history, prints, sessions), edges)
            order, found = plain_order(edges, many), plain_rings(edges, many)
            self.assertEqual(first_order(history, prints, sessions), order)
            self.assertEqual(first_ring(history, prints, sessions), found[0] if found else None)
            self.assertEqual(order is None, bool(found))
            rings += bool(found)
            for _ in range(4):
                told = tuple(rnd.sample(range(many), many))
                due = all([told.index(a) < told.index(b) for a, b, _ in edges])
                self.assertIs(is_order(history, prints, told, sessions), due)
                self.assertIs(is_order(history, prints, told + (0,), sessions), False)
                self.assertIs(is_order(history, prints, told[1:] + (many,), sessions), False)
                ring = tuple(rnd.sample(range(many), rnd.randrange(many + 1)))
                pairs = {(a, b) for a, b, _ in edges}
                due = len(ring) > 1 and all([(ring[at - 1], ring[at]) in pairs for at in range(len(ring))])
                self.assertIs(is_ring(history, prints, ring, sessions), due)
                self.assertIs(is_ring(history, prints, ring * 2, sessions), False)
            for ring in found:
                self.assertIs(is_ring(history, prints, ring, sessions), True)
                self.assertIs(is_ring(history, prints, ring[1:] + ring[:1], sessions), True)
        self.assertGreater(rings, 100)

    def test_sessions_that_are_kept(self):
        run = lambda snapshot, version: ("p", (), "loose", snapshot, version, ())
        history = (run(0, 1), run(1, 2), run(0, 3), run(3, 3), run(2, 4))
        for session, due in (((), True), ((2,), True), ((0, 1), True), ((1, 0), False), ((0, 2), False), ((0, 1, 3), True), ((0, 2, 3), False), ((2, 3), True), ((3, 2), False), ((0, 1, 4), True),
                             ((3, 4), False), ((0, 3, 4), False), ((4, 3), False)):
            self.assertIs(keeps(history, session), due, session)

    def test_long_histories_go_quickly(self):
        prints = {"p": ((("r", "t", P0), ("w", "t", P0), ("a", "u")),)}
        history = tuple([("p", (at % 50,), "strict", at, at + 1, ()) for at in range(600)])
        self.assertEqual(first_order(history, prints), tuple(range(600)))
        self.assertIsNone(first_ring(history, prints))
        turned = history[::-1]
        self.assertEqual(first_order(turned, prints)[0], 550)
        self.assertTrue(is_order(turned, prints, tuple(range(599, -1, -1))))


def prints_of(desk):
    programs = {name: desk.program(name) for name in desk.taken}
    return programs, {name: footprint(made, desk.database) for name, made in programs.items()}


def shapes_of(desk):
    return tuple([shape(desk.program(name), desk.database) for name in desk.taken])


class Promises(unittest.TestCase):

    def hold_ring(self, desk, prints, history):
        """Holds what the document says of the shortest ring."""
        ring = first_ring(history, prints)
        self.assertTrue(is_ring(history, prints, ring))
        pivot, others = split_in(history, prints, ring)
        least = min([history[at][4] for at in ring])
        self.assertEqual(history[others[0]][4], least)
        self.assertEqual(sorted(others + (pivot,)), sorted(ring))
        at = ring.index(others[0])
        self.assertEqual(ring[at:] + ring[:at], others + (pivot,))
        self.assertEqual(history[pivot][2], "loose")
        names = list(desk.taken)
        self.assertIsNotNone(split(shapes_of(desk), names.index(history[pivot][0]), False))

    def test_allotments_that_keep_the_web_let_no_ring(self):
        rings = 0
        for seed in range(300):
            rnd = random.Random("keep %d" % seed)
            pair = Pair(rnd, asks=plaindesk.ASKS[:2] + plaindesk.ASKS[5:7], most=3)
            desk = pair.desk
            levels = needed(shapes_of(desk), False) if seed % 2 else None
            if levels:
                desk.allot(tuple(["strict" if must else "loose" for must in levels]))
                pair.model.levels = dict(zip(desk.taken, desk.allotment()))
            else:
                desk.allot(("loose",) * len(desk.taken))
                pair.model.levels = dict.fromkeys(desk.taken, "loose")
            before = plain_tables(desk.database, desk.version())
            for _ in range(40):
                if pair.rnd.random() < 0.4 and len(pair.under) < 5:
                    pair.begin()
                elif pair.under:
                    pair.commit(self, pair.rnd.choice(list(pair.under)))
            programs, prints = prints_of(desk)
            history = list(desk.history())
            rnd.shuffle(history)
            history = tuple(history)
            order = first_order(history, prints)
            last = plain_tables(desk.database, desk.version())
            told = watch(desk.database, programs, prints, desk.first(), before, desk.history(), last)
            if order is None:
                self.assertIsNone(levels)
                self.hold_ring(desk, prints, history)
                self.assertEqual(told[0], "ring")
                rings += 1
                continue
            self.assertEqual(told, ("right", first_order(desk.history(), prints)))
            found, behind = serially(desk.database, programs, history, order, before)
            self.assertEqual(repr(found), repr(tuple([history[at][5] for at in order])))
            self.assertEqual(behind, last)
        self.assertGreater(rings, 3)

    def test_plays_are_rings(self):
        played = 0
        for seed in range(250):
            rnd = random.Random("play %d" % seed)
            pair = Pair(rnd, asks=plaindesk.ASKS[:2] + plaindesk.ASKS[5:7], most=4)
            desk = pair.desk
            shapes = shapes_of(desk)
            for place, strong in itertools.product(range(len(shapes)), (False, True)):
                told = split(shapes, place, strong)
                if told is None:
                    continue
                one = Desk()
                for kind, payload in desk.deeds:
                    one.redo(kind, payload)
                runs, sessions = runs_of(shapes, place, told), sessions_of(told)
                one.allot(tuple(["loose" if at == place else rnd.choice(("loose", "strict")) for at in range(len(shapes))]))
                number = None
                for word, k in steps_of(told):
                    if word == "begin":
                        number = one.begin(*runs[0])
                    elif word == "run":
                        one.run(*runs[k])
                    else:
                        one.runs[number].finish()
                        one.commit(number)
                _, prints = prints_of(one)
                history = one.history()[-1:] + one.history()[:-1]
                parts = tuple([tuple([at for at, n in enumerate(sessions) if n == k]) for k in set(sessions)])
                self.assertTrue(is_ring(history, prints, tuple(range(len(runs))), parts if strong else ()), (shapes, told))
                self.assertTrue(all([keeps(history, session) for session in parts]))
                if not strong:
                    self.assertIsNone(first_order(history, prints))
                    ring = first_ring(history, prints)
                    self.assertIsNotNone(split_in(history, prints, ring))
                    programs = {name: one.program(name) for name in one.taken}
                    start = one.first()
                    last = plain_tables(one.database, one.version())
                    due = ("ring", first_ring(one.history(), prints))
                    self.assertEqual(watch(one.database, programs, prints, start, plain_tables(one.database, start), one.history(), last), due)
                    self.assertFalse(is_kept(shapes, tuple([at != place for at in range(len(shapes))]), False))
                played += 1
        self.assertGreater(played, 100)

    def test_sessions_at_copies(self):
        """With the strong allotment, and sessions that are kept, there is an order with sessions."""
        behind = 0
        for seed in range(60):
            rnd = random.Random("sessions %d" % seed)
            pair = Pair(rnd, asks=plaindesk.ASKS[:2], most=3)
            desk = pair.desk
            if seed % 3:
                desk.add(("see", ("int",), (("read", "t", P0), ("read", "u", ("value", "x")))))
            desk.allot(tuple(["strict" if must else "loose" for must in needed(shapes_of(desk), True)]))
            copies = [Copy(Desk()), Copy(Desk())]
            sent = [0, 0]
            sessions = [Session(), Session()]
            told = [[], []]
            history = []
            for _ in range(25):
                who = rnd.randrange(2)
                name = rnd.choice(list(desk.taken))
                given = plaindesk.values(rnd, desk.program(name)[1])
                if rnd.random() < 0.3:
                    at = rnd.randrange(2)
                    log = desk.log()
                    many = rnd.randrange(len(log) - sent[at] + 1)
                    copies[at].take(log[sent[at]:sent[at] + many])
                    sent[at] += many
                elif only_reads(desk.program(name)) and desk.level(name) == "loose":
                    at = rnd.randrange(2)
                    try:
                        run = copies[at].run(name, given, sessions[who])
                    except Behind:
                        behind += 1
                        continue
                    except PeristyleError:
                        continue
                    told[who].append(run)
                    history.append(run)
                else:
                    version, _ = desk.run(name, given)
                    sessions[who].saw(version)
                    told[who].append(desk.history()[-1])
                    history.append(desk.history()[-1])
            _, prints = prints_of(desk)
            rnd.shuffle(history)
            places = [[], []]
            for who in range(2):
                taken = {}
                for run in told[who]:
                    found = [at for at, other in enumerate(history) if other == run and at not in taken]
                    taken[found[0]] = True
                    places[who].append(found[0])
            used = set(places[0])
            parts = tuple([tuple(part) for part in places]) if not used & set(places[1]) else (tuple(places[0]),)
            self.assertTrue(all([keeps(history, part) for part in parts]))
            self.assertIsNotNone(first_order(tuple(history), prints, parts))
        self.assertGreater(behind, 10)


class SplitsInRings(unittest.TestCase):

    def setUp(self):
        self.prints = {"skew": ((("r", "t", P0),), (("w", "t", P1),)), "see": ((("r", "t", P0), ("r", "t", P1)),), "put": ((("w", "t", P0),),)}

    def run_of(self, name, values, snapshot, version):
        return (name, values, "loose", snapshot, version, ())

    def test_two_runs(self):
        history = (self.run_of("skew", (1, 2), 0, 2), self.run_of("skew", (2, 1), 0, 1))
        self.assertEqual(first_ring(history, self.prints), (0, 1))
        for ring in ((0, 1), (1, 0)):
            self.assertEqual(split_in(history, self.prints, ring), (0, (1,)))
        # Both write one object.
        history = (self.run_of("skew", (1, 2), 0, 2), self.run_of("skew", (2, 2), 0, 1))
        self.assertIsNone(split_in(history, self.prints, (0, 1)))
        history = (self.run_of("skew", (1, 2), 1, 2), self.run_of("skew", (2, 1), 0, 1))
        self.assertIsNone(split_in(history, self.prints, (0, 1)))

    def test_a_run_of_a_copy_in_a_ring(self):
        # The first one committed at 1, is seen by a copy's run at 1 that doesn't see the last one's write.
        history = (self.run_of("see", (1, 2), 1, 1), self.run_of("put", (1,), 0, 1), self.run_of("skew", (1, 2), 0, 2))
        ring = first_ring(history, self.prints)
        self.assertEqual(ring, (0, 2, 1))
        for turned in (ring, ring[1:] + ring[:1], ring[2:] + ring[:2]):
            self.assertEqual(split_in(history, self.prints, turned), (2, (1, 0)))
        self.assertIsNone(split_in(history, self.prints, (0, 1, 2)))

    def test_none_that_committed_the_least_version(self):
        history = (self.run_of("see", (5, 6), 1, 1), self.run_of("see", (5, 6), 1, 1), self.run_of("skew", (1, 2), 0, 2))
        self.assertIsNone(split_in(history, self.prints, (1, 0, 2)))
        prints = {"p": ((("r", "t", P0), ("w", "t", P1)),)}
        # Of several with the least version and none that committed it, the least place is the first.
        history = tuple([("p", values, "loose", 4, 4, ()) for values in ((1, 2), (2, 1))]) + (("p", (2, 3), "loose", 0, 5, ()),)
        self.assertIsNone(split_in(history, prints, (1, 0)))

    def test_it_is_told_just_if_the_words_are_so(self):
        rnd = random.Random(3)
        told = 0
        for _ in range(6000):
            prints = drawn_footprints(rnd)
            history = drawn_history(rnd, prints, rnd.randrange(2, 6))
            ring = tuple(rnd.sample(range(len(history)), rnd.randrange(2, len(history) + 1)))
            least = min([history[at][4] for at in ring])
            first = [at for at in ring if history[at][4] == least]
            first = min([at for at in first if history[at][3] < least] or first)
            turn = ring.index(first)
            turned = ring[turn:] + ring[:turn]
            pairs = {(a, b) for a, b, sorts in plain_graph(history, prints) if "rw" in sorts}
            spots = [{entry[1:] for entries in run_footprint(prints[run[0]], run[1]) for entry in entries if entry[0] == "w"} for run in history]
            pivot = turned[-1]
            fits = (pivot, first) in pairs and (turned[-2], pivot) in pairs and not any([spots[pivot] & spots[at] for at in turned[:-1]])
            self.assertEqual(split_in(history, prints, ring), (pivot, turned[:-1]) if fits else None)
            told += fits
        self.assertGreater(told, 30)

    def test_skew_on_a_desk(self):
        desk = filled()
        put = lambda name: ("put", "t", (name, text("z"), num(1)))
        desk.add(("skew", ("int", "int"), (("read", "t", P0), put(P1))))
        desk.allot(("loose",))
        one, two = desk.begin("skew", (1, 2)), desk.begin("skew", (2, 1))
        for number in (one, two):
            desk.step(number)
            desk.step(number)
            desk.commit(number)
        programs, prints = prints_of(desk)
        self.assertIsNone(first_order(desk.history(), prints))
        self.assertEqual(split_in(desk.history(), prints, (0, 1)), (1, (0,)))
        desk.allot(("strict",))
        one, two = desk.begin("skew", (1, 2)), desk.begin("skew", (2, 1))
        for number in (one, two):
            desk.step(number)
            desk.step(number)
        desk.commit(two)
        with self.assertRaises(PeristyleError):
            desk.commit(one)


if __name__ == "__main__":
    unittest.main()
