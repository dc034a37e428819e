"""Plain values written as octets, and entries of a log."""

import random
import unittest

from entablature.errors import BadForm, PeristyleError
from entablature.log import check_number, entry, entry_at, recovered
from entablature.octets import read, written

SIGNS = "".join([chr(code) for code in range(32, 127) if code != 37]) + "\n\t"


def octets(text):
    return [ord(sign) for sign in text]


def nested(x, many):
    for _ in range(many):
        x = (x,)
    return x


def drawn(rnd, deep=4):
    way = rnd.random()
    if way < 0.3 and deep:
        return tuple([drawn(rnd, deep - 1) for _ in range(rnd.randrange(4))])
    return rnd.choice((None, True, False, 0, 1, -1, rnd.randrange(-10 ** 20, 10 ** 20), rnd.randrange(12),
                       "".join([rnd.choice(SIGNS) for _ in range(rnd.choice((0, 1, 5, 9, 10, 11, 120)))])))


class Written(unittest.TestCase):

    def test_each_sort(self):
        for x, text in ((None, "n"), (True, "t"), (False, "f"), (0, "i0;"), (1, "i1;"), (-12, "i-12;"), ("", "s0:"), ("ab", "s2:ab"),
                        ("a" * 9, "s9:" + "a" * 9), ("b\n" * 5, "s10:" + "b\n" * 5), ("\t~ '", "s4:\t~ '"), ((), "()"), ((1, (True,), "x", ()), "(i1;(t)s1:x())"),
                        (10 ** 30, "i1" + "0" * 30 + ";"), (SIGNS, "s96:" + SIGNS)):
            self.assertEqual(written(x), octets(text))
            self.assertEqual(repr(read(octets(text))), repr(x))

    def test_numbers_of_many_figures(self):
        for many in (59, 60, 61, 119, 120, 121, 4299, 4300, 4301, 9000):
            for x in (10 ** many, 10 ** many - 1, -(10 ** many), 10 ** many + 10 ** (many // 2)):
                told = written(x)
                self.assertEqual(len(told), (many + 1 if abs(x) >= 10 ** many else many) + 2 + (x < 0))
                self.assertEqual(read(told), x)
        self.assertEqual(written(7 * 10 ** 130 + 5), octets("i7" + "0" * 129 + "5;"))

    def test_what_is_no_plain_value(self):
        for bad in (1.0, [], [1], {}, b"a", object, "a%", "%", "a\r", "\x7f", "\x00", "\x1f", "\xe9", "\u20ac", (1, [2]), ((), (None, 2.5)),
                    frozenset(), (("x", ("%",)),)):
            with self.assertRaises(BadForm):
                written(bad)

    def test_nesting(self):
        for x in (None, True, 5, "a", ()):
            self.assertEqual(read(written(nested(x, 400))), nested(x, 400))
            with self.assertRaises(BadForm):
                written(nested(x, 401))
            told = written(x)
            self.assertEqual(read([40] * 400 + told + [41] * 400), nested(x, 400))
            with self.assertRaises(BadForm):
                read([40] * 401 + told + [41] * 401)
        self.assertEqual(read([40] * 401 + [41] * 401), nested((), 400))
        self.assertEqual(written(((),) * 500), octets("(" + "()" * 500 + ")"))
        with self.assertRaises(BadForm):
            written(nested(1, 5000))

    def test_what_nothing_writes(self):
        for text in ("", "x", "i", "i;", "i5", "i05;", "i00;", "i-0;", "i-;", "i--1;", "i+1;", "i 1;", "i1 ;", "i1,", "i1;;", "i-01;", "i1a;", "s", "s:", "s1:", "s01:a", "s2:a",
                     "s1:ab", "s00:", "s-1:a", "s+1:a", "s1;a", "s 1:a", "s1:%", "s1:\x7f", "s1:\r", "s1:\x00", "(", ")", "(n", "n)", "nn", "()n", "(n))", "((n)", "T", "F", "N", "s9999999999999999999999:a",
                     "i1;\n", " n", "n "):
            with self.assertRaises(BadForm):
                read(octets(text))

    def test_what_is_no_list_of_octets(self):
        for bad in (None, 5, "n", b"n", {}, [None], [True], ["n"], [[110]], [110.0], [110, 256], [256], [-1], [40, 41, True], [105, 49, 59, -146], [115, 49, 58, 201]):
            with self.assertRaises(BadForm):
                read(bad)

    def test_changed_octets(self):
        rnd = random.Random(2)
        for _ in range(3000):
            x = drawn(rnd)
            told = written(x)
            self.assertEqual(repr(read(told)), repr(x))
            self.assertEqual(read(list(told)), x)
            at = rnd.randrange(len(told))
            bad = list(told)
            way = rnd.randrange(4)
            if way == 0:
                bad[at] = rnd.choice((rnd.randrange(256), 48, 59, 40, 41, 57))
            elif way == 1:
                del bad[at]
            elif way == 2:
                bad.insert(at, rnd.choice((rnd.randrange(256), 48, 49, 45, 40, 41)))
            else:
                bad.append(rnd.randrange(256))
            try:
                found = read(bad)
            except BadForm:
                continue
            self.assertEqual(written(found), bad)

    def test_told_lists_are_new(self):
        told = written((1, 2))
        told.clear()
        self.assertEqual(written((1, 2)), octets("(i1;i2;)"))
        data = octets("(i1;i2;)")
        read(data)
        self.assertEqual(data, octets("(i1;i2;)"))


class Entries(unittest.TestCase):

    def test_check_number(self):
        self.assertEqual(check_number([]), 0)
        self.assertEqual(check_number([3, 110]), 3 + 2 * 110)
        long = [255] * 5000
        self.assertEqual(check_number(long), sum([(at + 1) * 255 for at in range(5000)]) % 65521)
        self.assertEqual(check_number([65521 % 256] + [0] * 70000), 65521 % 256)

    def test_entry(self):
        self.assertEqual(entry(4, None), [0, 0, 0, 1, 4, 110, 0, 224])
        told = entry(7, ("a" * 300, -5))
        payload = written(("a" * 300, -5))
        self.assertEqual(told[:5], [0, 0, len(payload) // 256, len(payload) % 256, 7])
        self.assertEqual(told[5:-2], payload)
        self.assertEqual(told[-2] * 256 + told[-1], check_number([7] + payload))
        self.assertEqual(entry(0, ())[:7], [0, 0, 0, 2, 0, 40, 41])
        for bad in ([], 1.5, nested(1, 401)):
            with self.assertRaises(BadForm):
                entry(1, bad)

    def test_entries_one_behind_the_other(self):
        rnd = random.Random(4)
        for _ in range(100):
            payloads = [(rnd.randrange(256), drawn(rnd)) for _ in range(4)]
            told = []
            places = [0]
            for kind, payload in payloads:
                told.extend(entry(kind, payload))
                places.append(len(told))
            for n, (kind, payload) in enumerate(payloads):
                self.assertEqual(repr(entry_at(told, places[n])), repr((kind, payload, places[n + 1])))
            for at in (len(told), len(told) + 1, len(told) + 100, -1, -len(told)):
                self.assertIsNone(entry_at(told, at))
            last = places[-2]
            for cut in range(last, len(told)):
                self.assertIsNone(entry_at(told[:cut], last))
            for at in range(places[1]):
                bad = list(told)
                bad[at] = (bad[at] + rnd.randrange(1, 256)) % 256
                found = entry_at(bad, 0)
                if found is not None:
                    self.assertEqual(entry(found[0], found[1]), bad[:found[2]])

    def test_one_changed_octet_is_seen(self):
        told = entry(4, ("abc", (1, None, True)))
        for at in range(4, len(told)):
            for more in (1, 7, 255):
                bad = list(told)
                bad[at] = (bad[at] + more) % 256
                self.assertIsNone(entry_at(bad, 0))

    def test_right_check_numbers_over_what_is_no_value(self):
        payload = octets("i05;")
        check = check_number([2] + payload)
        self.assertIsNone(entry_at([0, 0, 0, 4, 2] + payload + [check // 256, check % 256], 0))
        self.assertIsNone(entry_at([0, 0, 0, 0, 2, 0, 2], 0))
        self.assertIsNone(entry_at([], 0))

    def test_recovered_refuses_what_are_no_octets(self):
        class Nothing:
            def redo(self, kind, payload):
                raise AssertionError("nothing is to be done")

        for bad in ([256], [-1], [None], ["a"], [True], entry(3, ()) + [1.0], "abc", None, 5):
            with self.assertRaises(BadForm):
                recovered(Nothing(), bad)

    def test_recovered_does_what_is_taken(self):
        class Desk:
            def __init__(self):
                self.done = []

            def redo(self, kind, payload):
                if payload == "odd":
                    raise PeristyleError()
                self.done.append((kind, payload))

        told = entry(1, "a") + entry(2, (3,)) + entry(3, "odd") + entry(4, "b")
        places = [0, len(entry(1, "a")), len(entry(1, "a") + entry(2, (3,)))]
        for cut in range(len(told) + 1):
            desk = Desk()
            used = recovered(desk, told[:cut])
            self.assertEqual(used, max([place for place in places if place <= cut]))
            self.assertEqual(desk.done, [(1, "a"), (2, (3,))][:places.index(used)])


if __name__ == "__main__":
    unittest.main()
