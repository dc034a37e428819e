import random
import unittest

from entablature.bound import bound, may_hold
from entablature.column import best, packed, unpacked
from entablature.errors import BadForm, BadKind

TOP = 10 ** 18
KINDS = ("bool", "int", "text")


def long_number(n):
    out = []
    while n >= 128:
        out.append(n % 128 + 128)
        n //= 128
    return out + [n]


def columns():
    rnd = random.Random(3)
    found = [("int", []), ("text", []), ("bool", []), ("int", [None]), ("text", [None] * 9), ("bool", [None] * 256),
             ("int", [TOP - 1, 1 - TOP, TOP - 1]), ("int", [1 - TOP]), ("int", [5] * 256), ("text", ["x" * 200] * 3),
             ("text", ["", "~", " ", ""]),
             ("text", [chr(code) for code in range(32, 127) if code != 37]), ("bool", [True, False, None, True]), ("int", list(range(256)))]
    for _ in range(150):
        kind = rnd.choice(KINDS)
        many = rnd.choice((0, 1, 2, 7, 8, 9, 17, 40))
        pool = {"int": [0, 1, -1, 63, 64, -64, -65, 127, 128, 10 ** 17, TOP - 1, 1 - TOP], "bool": [True, False],
                "text": ["", "a", "ab", "x" * 127, "y" * 128, "~"]}[kind]
        found.append((kind, [None if rnd.random() < 0.2 else rnd.choice(pool) for _ in range(many)]))
    return found


class Packing(unittest.TestCase):

    def test_bytes_by_hand(self):
        values = [3, None, 3, -1]
        self.assertEqual(packed(values, "int", 0), [1, 0, 4, 2, 6, 6, 1])
        self.assertEqual(packed(values, "int", 1), [1, 1, 4, 2, 2, 2, 6, 1, 1])
        self.assertEqual(packed(values, "int", 2), [1, 2, 4, 2, 2, 1, 6, 1, 1, 0])
        self.assertEqual(packed(values, "int", 3), [1, 3, 4, 2, 6, 0, 7])
        self.assertEqual(packed(values, "int", 4), [1, 4, 4, 2, 1, 4, 4, 0])
        self.assertEqual(packed(["ab", None], "text", 0), [2, 0, 2, 2, 2, 97, 98])
        self.assertEqual(packed([True, False], "bool", 0), [0, 0, 2, 0, 1, 0])
        self.assertEqual(packed([True, False, True], "bool", 2), [0, 2, 3, 0, 2, 0, 1, 1, 0, 1])
        self.assertEqual(packed([64], "int", 0), [1, 0, 1, 0, 128, 1])
        self.assertEqual(packed([None] * 9, "int", 0), [1, 0, 9, 255, 1])
        self.assertEqual(packed([None] * 9, "int", 1), [1, 1, 9, 255, 1, 0])
        self.assertEqual(packed([None], "text", 2), [2, 2, 1, 1, 0])
        self.assertEqual(packed([], "int", 3), [1, 3, 0])
        self.assertEqual(packed([], "int", 4), [1, 4, 0])
        self.assertEqual(packed([], "bool", 1), [0, 1, 0, 0])
        self.assertEqual(packed([7] * 200, "int", 1), [1, 1, 200, 1] + [0] * 25 + [1, 200, 1, 14])
        self.assertEqual(packed(["x" * 200], "text", 0), [2, 0, 1, 0, 200, 1] + [120] * 200)

    def test_there_and_back(self):
        for kind, values in columns():
            for packing in range(5):
                if kind != "int" and packing > 2:
                    with self.assertRaises(BadKind) as caught:
                        packed(values, kind, packing)
                    self.assertEqual(caught.exception.at, -1)
                    continue
                data = packed(values, kind, packing)
                self.assertTrue(all([type(x) is int and 0 <= x <= 255 for x in data]))
                told = unpacked(list(data))
                self.assertEqual(told, (kind, packing, values))
                self.assertEqual([type(x) for x in told[2]], [type(x) for x in values])

    def test_steps_and_near_are_of_no_use_even_without_values(self):
        for kind in ("text", "bool"):
            for packing in (3, 4):
                for values in ([], [None]):
                    with self.assertRaises(BadKind):
                        packed(values, kind, packing)
                    head = [KINDS.index(kind), packing, len(values)] + [1] * len(values)
                    with self.assertRaises(BadForm):
                        unpacked(head)

    def test_what_is_handed_in_stays(self):
        values = [2, None, 1]
        for packing in range(5):
            data = packed(values, "int", packing)
            copy = list(data)
            unpacked(data)[2].append(5)
            self.assertEqual(data, copy)
        self.assertEqual(values, [2, None, 1])
        self.assertEqual(packed((2, None, 1), "int", 0), packed(values, "int", 0))

    def test_wrong_columns(self):
        for values, kind, packing in [([1] * 257, "int", 0), ([True], "int", 0), (["a"], "int", 0), ([1], "text", 0),
                                      ([1], "bool", 0), ([TOP], "int", 0), (["x" * 201], "text", 0), (["%"], "text", 0),
                                      ([("fault", 1)], "int", 0), ([1], "int", 5), ([1], "int", -1), ([1], "int", True),
                                      ([1], "int", None), ([1], "float", 0), (["a\n"], "text", 0), (["a"], "int", 3)]:
            with self.assertRaises(BadForm, msg=(values[:2], kind, packing)):
                packed(values, kind, packing)

    def test_form_goes_ahead_of_kind(self):
        with self.assertRaises(BadForm):
            packed([1], "text", 3)
        with self.assertRaises(BadKind):
            packed(["a"], "text", 3)

    def test_wrong_lists(self):
        for data in [[], [1], [1, 0], [3, 0, 0], [1, 5, 0], [1, 0, 1], [1, 0, 1, 0], [1, 0, 1, 0, 2, 0],
                     [1, 0, 128, 0], [1, 0, 1, 0, 128, 0], [1, 0, 1, 2, 2], [1, 0, 1, 3], [1, 0, 0, 0],
                     [1, 0, 129, 2] + [255] * 33, [0, 0, 1, 0, 2], [2, 0, 1, 0, 1, 31], [2, 0, 1, 0, 1, 127],
                     [2, 0, 1, 0, 1, 37], [2, 0, 1, 0, 201, 1] + [97] * 201,
                     # Runs: neighbours alike, empty, too long, too few.
                     [1, 1, 2, 0, 2, 1, 2, 1, 2], [1, 1, 1, 0, 2, 0, 2, 1, 2], [1, 1, 1, 0, 1, 2, 2],
                     [1, 1, 2, 0, 1, 1, 2], [1, 1, 1, 1, 1, 0, 2], [1, 1, 0, 1],
                     # Books: not rising, equal, one that does not occur, an index beyond the end.
                     [1, 2, 2, 0, 2, 4, 2, 0, 1], [1, 2, 2, 0, 2, 2, 2, 0, 1], [1, 2, 1, 0, 2, 2, 4, 0],
                     [1, 2, 1, 0, 1, 2, 1], [1, 2, 2, 0, 1, 2, 0], [1, 2, 0, 1, 2],
                     # Near: a least value that is not there. Steps: a sum beyond the numbers.
                     [1, 4, 1, 0, 2, 1], [1, 4, 2, 0, 2, 1, 2], [1, 4, 0, 2],
                     [1, 3, 2, 0] + long_number(2 * (TOP - 1)) + [2],
                     [1, 0, 1, 0] + long_number(2 * TOP), [1, 0, 1, 0] + long_number(2 * TOP - 1),
                     [1, 4, 1, 0] + long_number(2 * TOP) + [0], [1, 0, 1, 0] + [255] * 40 + [1],
                     [1, 1, 1, 0] + [255] * 40 + [1], [1, 0] + [255] * 40 + [1]]:
            with self.assertRaises(BadForm, msg=data[:12]):
                unpacked(data)
        for data in [[1, 0, 1, 0, None], [1, 0, 1, 0, "2"], [1, 0, 1, 0, 256], [1, 0, 1, 0, -2], [True, 0, 0],
                     [1, False, 0], [1, 0, 1, 0, 2.0], [[1], 0, 0], None, "abc", 5]:
            with self.assertRaises(BadForm, msg=data):
                unpacked(data)

    def test_only_what_packing_gives_is_taken(self):
        rnd = random.Random(11)
        taken = 0
        for kind, values in columns():
            for packing in range(5 if kind == "int" else 3):
                data = packed(values, kind, packing)
                for _ in range(12):
                    other = list(data)
                    roll = rnd.randrange(3)
                    at = rnd.randrange(len(other))
                    if roll == 0:
                        other[at] = rnd.choice((0, 1, 2, 127, 128, 129, 255, other[at] ^ 1))
                    elif roll == 1:
                        del other[at]
                    else:
                        other.insert(at, rnd.choice((0, 1, 128)))
                    try:
                        told = unpacked(other)
                    except BadForm:
                        continue
                    taken += 1
                    self.assertEqual(packed(told[2], told[0], told[1]), other)
        self.assertGreater(taken, 50)

    def test_best(self):
        self.assertEqual(best([], "int"), 0)
        self.assertEqual(best([], "text"), 0)
        self.assertEqual(best([None, None], "int"), 0)
        self.assertEqual(best([5] * 50, "int"), 1)
        self.assertEqual(best([10 ** 15 + at for at in range(20)], "int"), 3)
        self.assertEqual(best([10 ** 15 + at % 2 * 100 + at for at in range(20)], "int"), 4)
        self.assertEqual(best(["hello", "world"] * 20, "text"), 2)
        for kind, values in columns():
            sizes = [len(packed(values, kind, packing)) for packing in range(5 if kind == "int" else 3)]
            self.assertEqual(best(values, kind), sizes.index(min(sizes)))


class Bounds(unittest.TestCase):

    def test_bound(self):
        self.assertEqual(bound([3, None, 1, None]), (1, 3, 2))
        self.assertEqual(bound([]), (None, None, 0))
        self.assertEqual(bound([None]), (None, None, 1))
        self.assertEqual(bound(["b", "a"]), ("a", "b", 0))
        self.assertEqual(bound([True, False, True]), (False, True, 0))
        self.assertEqual(bound([False]), (False, False, 0))

    def test_may_hold(self):
        signs = {"eq": lambda a, b: a == b, "ne": lambda a, b: a != b, "lt": lambda a, b: a < b,
                 "le": lambda a, b: a <= b, "gt": lambda a, b: a > b, "ge": lambda a, b: a >= b}
        for name, sign in signs.items():
            for low in range(4):
                for high in range(low, 4):
                    for worth in range(-1, 5):
                        told = any([sign(x, worth) for x in range(low, high + 1)])
                        self.assertEqual(may_hold(name, (low, high, 0), worth), told, (name, low, high, worth))
            self.assertFalse(may_hold(name, (None, None, 3), 1))
            self.assertFalse(may_hold(name, (None, None, 0), 1))
            self.assertFalse(may_hold(name, (1, 2, 0), None))
            for low, high in ((False, False), (False, True), (True, True)):
                for worth in (False, True):
                    told = any([sign(x, worth) for x in (low, high)])
                    self.assertEqual(may_hold(name, (low, high, 0), worth), told)
        # A text lies between "a" and "b" even if no row has it.
        self.assertTrue(may_hold("eq", ("a", "b", 0), "ab"))
        self.assertFalse(may_hold("eq", ("a", "b", 0), "ba"))
        self.assertTrue(may_hold("ne", ("a", "b", 0), "a"))
        self.assertFalse(may_hold("ne", ("a", "a", 0), "a"))


if __name__ == "__main__":
    unittest.main()
