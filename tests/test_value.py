import random
import unittest

from entablature.operators import is_strict, kind_of, may_fault, worked
from entablature.value import fault, is_fault, is_value, least_fault, order, row_order, sorted_rows

TOP = 10 ** 18
DIV, CAST, MANY, SIZE = fault(1), fault(2), fault(3), fault(4)
STRICT = """add sub mul div mod neg abs eq ne lt le gt ge cat size upper lower part like number words not most
least""".split()
LOOSE = "and or isnull same coalesce nullif".split()


class Values(unittest.TestCase):

    def test_ints(self):
        for x in (0, 1, -1, TOP - 1, 1 - TOP):
            self.assertTrue(is_value(x, "int"))
        for x in (TOP, -TOP, True, False, "1", 1.0, (1,), [1]):
            self.assertFalse(is_value(x, "int"), x)

    def test_texts(self):
        for x in ("", "a", " ~'\"", "x" * 200):
            self.assertTrue(is_value(x, "text"))
        for x in ("x" * 201, "\n", "\t", "%", "a%b", "\x7f", "\x1f", "\xe9", 1, True, ("a",), ["a"]):
            self.assertFalse(is_value(x, "text"), x)
        for code in range(300):
            self.assertEqual(is_value(chr(code), "text"), 32 <= code <= 126 and code != 37)

    def test_bools_and_null(self):
        self.assertTrue(is_value(True, "bool") and is_value(False, "bool"))
        for x in (0, 1, "True", [], ()):
            self.assertFalse(is_value(x, "bool"))
        for kind in ("int", "text", "bool"):
            self.assertTrue(is_value(None, kind))
            self.assertFalse(is_value(DIV, kind))

    def test_faults(self):
        self.assertEqual(fault(2), ("fault", 2))
        for code in (1, 2, 3, 4):
            self.assertTrue(is_fault(("fault", code)))
        for x in (("fault", 0), ("fault", 5), ("fault", True), ("fault",), ("fault", 1, 1), ["fault", 1], "fault",
                  ("fault", "1"), None, (1, 2), ((), 1), ("Fault", 1)):
            self.assertFalse(is_fault(x), x)
        self.assertEqual(least_fault([1, None, SIZE, "a", CAST, MANY]), CAST)
        self.assertIsNone(least_fault([1, None, ("fault", 9), ["fault", 1]]))
        self.assertIsNone(least_fault([]))

    def test_order(self):
        self.assertEqual([order(1, 2), order(2, 1), order(2, 2)], [-1, 1, 0])
        self.assertEqual([order("B", "a"), order("a", "ab"), order("", "")], [-1, -1, 0])
        self.assertEqual([order(False, True), order(True, True)], [-1, 0])
        self.assertEqual([order(None, 5), order(5, None), order(None, None)], [1, -1, 0])
        self.assertEqual([order(None, DIV), order(DIV, None), order(DIV, SIZE), order(SIZE, SIZE)], [-1, 1, -1, 0])
        self.assertEqual(order(SIZE, "zzz"), 1)

    def test_order_of_rows(self):
        self.assertEqual(row_order((1, None), (1, 2)), 1)
        self.assertEqual(row_order((1, None, 3), (1, None, 4)), -1)
        self.assertEqual(row_order((DIV, 1), (None, 2)), 1)
        self.assertEqual(row_order((), ()), 0)
        self.assertEqual(row_order([1, "a"], (1, "a")), 0)
        rows = [(None, 1), (2, "x"), (SIZE, 1), (2, None), (DIV, 1), (1, "z")]
        self.assertEqual(sorted_rows(rows), [(1, "z"), (2, "x"), (2, None), (None, 1), (DIV, 1), (SIZE, 1)])
        self.assertEqual(rows[0], (None, 1))
        self.assertEqual(sorted_rows([[2], [1]]), [(1,), (2,)])


class Kinds(unittest.TestCase):

    def test_kinds(self):
        table = [("add", "int int", "int"), ("div", "int int", "int"), ("neg", "int", "int"), ("abs", "int", "int"),
                 ("eq", "text text", "bool"), ("lt", "bool bool", "bool"), ("cat", "text text", "text"),
                 ("size", "text", "int"), ("upper", "text", "text"), ("part", "text int int", "text"),
                 ("like", "text text", "bool"), ("number", "text", "int"), ("words", "int", "text"),
                 ("not", "bool", "bool"), ("and", "bool bool", "bool"), ("or", "bool bool", "bool"),
                 ("isnull", "text", "bool"), ("same", "int int", "bool"), ("coalesce", "text text", "text"),
                 ("nullif", "bool bool", "bool"), ("most", "int int", "int"), ("least", "text text", "text"),
                 ("mod", "int int", "int"), ("sub", "int int", "int"), ("mul", "int int", "int"),
                 ("lower", "text", "text")]
        for name, kinds, kind in table:
            self.assertEqual(kind_of(name, tuple(kinds.split())), kind, name)

    def test_no_kinds(self):
        for name, kinds in [("add", ("int",)), ("add", ("int", "text")), ("eq", ("int", "text")), ("eq", ("int",)),
                            ("isnull", ()), ("isnull", ("int", "int")), ("same", ("bool", "int")), ("foo", ("int",)),
                            ("not", ("int",)), ("part", ("text", "int")), ("most", ("int",) * 3), ("count", ("int",)),
                            ("coalesce", ("int", "bool")), ("", ()), ("eq", ("x", "x")), ("isnull", ("x",))]:
            self.assertIsNone(kind_of(name, kinds), (name, kinds))

    def test_strict_and_faulty(self):
        for name in STRICT:
            self.assertTrue(is_strict(name), name)
        for name in LOOSE:
            self.assertFalse(is_strict(name), name)
        faulty = [name for name in STRICT + LOOSE if may_fault(name)]
        self.assertEqual(faulty, ["add", "sub", "mul", "div", "mod", "cat", "number"])


class Operators(unittest.TestCase):

    def check(self, name, args, told):
        got = worked(name, args)
        self.assertEqual(got, told, (name, args))
        self.assertEqual(type(got), type(told), (name, args))

    def test_numbers(self):
        big = TOP - 1
        for name, args, told in [
                ("add", (2, 3), 5), ("add", (big, 1), SIZE), ("add", (-big, -1), SIZE), ("add", (big, 0), big),
                ("sub", (2, 3), -1), ("sub", (-big, 1), SIZE), ("sub", (0, big), -big),
                ("mul", (4, -5), -20), ("mul", (10 ** 9, 10 ** 9), SIZE), ("mul", (10 ** 9, 10 ** 9 - 1), 10 ** 18 - 10 ** 9),
                ("mul", (-(10 ** 9), 10 ** 9), SIZE),
                ("div", (7, 2), 3), ("div", (-7, 2), -4), ("div", (7, -2), -4), ("div", (-7, -2), 3), ("div", (0, 5), 0),
                ("div", (1, 0), DIV), ("div", (0, 0), DIV), ("mod", (1, 0), DIV), ("div", (-big, -1), big),
                ("mod", (7, 2), 1), ("mod", (-7, 2), 1), ("mod", (7, -2), -1), ("mod", (-7, -2), -1),
                ("neg", (5,), -5), ("neg", (0,), 0), ("neg", (-big,), big), ("abs", (-5,), 5), ("abs", (5,), 5),
                ("most", (1, 2), 2), ("least", (1, 2), 1), ("most", ("a", "b"), "b"), ("least", (True, False), False)]:
            self.check(name, args, told)

    def test_comparisons(self):
        pairs = [(1, 2), (2, 1), (2, 2), ("a", "b"), ("B", "a"), (False, True), (True, True)]
        for a, b in pairs:
            self.check("eq", (a, b), a == b)
            self.check("ne", (a, b), a != b)
            self.check("lt", (a, b), a < b)
            self.check("le", (a, b), a <= b)
            self.check("gt", (a, b), a > b)
            self.check("ge", (a, b), a >= b)

    def test_texts(self):
        for name, args, told in [
                ("cat", ("a", "b"), "ab"), ("cat", ("x" * 100, "y" * 100), "x" * 100 + "y" * 100),
                ("cat", ("x" * 100, "y" * 101), SIZE), ("cat", ("", ""), ""), ("size", ("abc",), 3), ("size", ("",), 0),
                ("upper", ("aZ1_",), "AZ1_"), ("lower", ("aZ1_",), "az1_"),
                ("part", ("abc", 0, 2), "a"), ("part", ("abc", 1, 2), "ab"), ("part", ("abc", 2, 5), "bc"),
                ("part", ("abc", 4, 1), ""), ("part", ("abc", 3, 1), "c"), ("part", ("abc", 1, 0), ""),
                ("part", ("abc", 2, -1), ""), ("part", ("abc", -5, 7), "a"), ("part", ("abc", -5, 3), ""),
                ("part", ("abc", 1 - TOP, TOP - 1), ""), ("part", ("abc", 1, TOP - 1), "abc"),
                ("part", ("", 1, 1), ""), ("part", ("abc", TOP - 1, TOP - 1), ""),
                ("words", (12,), "12"), ("words", (-12,), "-12"), ("words", (0,), "0"),
                ("not", (True,), False), ("not", (False,), True)]:
            self.check(name, args, told)

    def test_number(self):
        for text, told in [("0", 0), ("007", 7), ("-12", -12), ("-0", 0), ("-000", 0), ("9" * 18, TOP - 1),
                           ("-" + "9" * 18, 1 - TOP), ("0" * 18, 0), ("0" * 19, CAST), ("1" * 19, CAST), ("", CAST),
                           ("-", CAST), ("+1", CAST), (" 1", CAST), ("1 ", CAST), ("--1", CAST), ("1a", CAST),
                           ("1-", CAST), ("a", CAST), ("1_0", CAST), ("1.0", CAST), ("-" + "1" * 19, CAST)]:
            self.check("number", (text,), told)

    def test_like(self):
        for text, pattern, told in [
                ("", "", True), ("", "*", True), ("", "?", False), ("a", "", False), ("abc", "abc", True),
                ("abc", "a*", True), ("abc", "*c", True), ("abc", "*b*", True), ("abc", "a?c", True),
                ("abc", "a?", False), ("abc", "?*?", True), ("a", "?*?", False), ("aXbXc", "*X*X*", True),
                ("aXbc", "*X*X*", False), ("abab", "*ab", True), ("aba", "*ab", False), ("*", "*", True),
                ("a*b", "a*b", True), ("?", "?", True), ("A", "a", False), ("abcabd", "*abd", True), ("ab", "**", True),
                ("x" * 200, "*" * 100 + "y", False), ("x" * 200, "*x" * 100, True), (".", "?", True), ("ab", ".*", False)]:
            self.check("like", (text, pattern), told)

    def test_like_against_a_plain_reading(self):
        def fits(text, pattern):
            if pattern == "":
                return text == ""
            if pattern[0] == "*":
                return any([fits(text[at:], pattern[1:]) for at in range(len(text) + 1)])
            return text != "" and pattern[0] in ("?", text[0]) and fits(text[1:], pattern[1:])
        rnd = random.Random(5)
        for _ in range(3000):
            text = "".join([rnd.choice("ab*?") for _ in range(rnd.randrange(7))])
            pattern = "".join([rnd.choice("ab*?") for _ in range(rnd.randrange(7))])
            self.check("like", (text, pattern), fits(text, pattern))

    def test_strict_with_null_and_faults(self):
        right = {"size": ("a",), "upper": ("a",), "lower": ("a",), "number": ("1",), "part": ("a", 1, 1), "words": (1,),
                 "neg": (1,), "abs": (1,), "not": (True,), "cat": ("a", "b"), "like": ("a", "b")}
        for name in STRICT:
            args = right.get(name, (1, 2))
            for at in range(len(args)):
                self.check(name, args[:at] + (None,) + args[at + 1:], None)
                self.check(name, args[:at] + (MANY,) + args[at + 1:], MANY)
            if len(args) > 1:
                rest = args[2:]
                self.check(name, (None, DIV) + rest, None)
                self.check(name, (DIV, None) + rest, None)
                self.check(name, (SIZE, CAST) + rest, CAST)
                self.check(name, (CAST, SIZE) + rest, CAST)
                self.check(name, (None, None) + rest, None)

    def test_and_or(self):
        ranks_and = [False, None, DIV, SIZE, True]
        ranks_or = [True, None, DIV, SIZE, False]
        for name, ranks in (("and", ranks_and), ("or", ranks_or)):
            for a in range(5):
                for b in range(5):
                    self.check(name, (ranks[a], ranks[b]), ranks[min(a, b)])

    def test_isnull_and_same(self):
        self.check("isnull", (None,), True)
        self.check("isnull", (0,), False)
        self.check("isnull", ("",), False)
        self.check("isnull", (CAST,), CAST)
        self.check("same", (None, None), True)
        self.check("same", (None, 1), False)
        self.check("same", (1, None), False)
        self.check("same", (1, 1), True)
        self.check("same", ("a", "b"), False)
        self.check("same", (SIZE, None), SIZE)
        self.check("same", (None, SIZE), SIZE)
        self.check("same", (SIZE, DIV), DIV)
        self.check("same", (False, CAST), CAST)

    def test_coalesce_and_nullif(self):
        self.check("coalesce", (1, 2), 1)
        self.check("coalesce", (None, 2), 2)
        self.check("coalesce", (None, None), None)
        self.check("coalesce", (CAST, 2), CAST)
        self.check("coalesce", (None, CAST), CAST)
        self.check("coalesce", (1, CAST), 1)
        self.check("coalesce", (SIZE, DIV), SIZE)
        self.check("coalesce", (False, True), False)
        self.check("nullif", (1, 2), 1)
        self.check("nullif", (1, 1), None)
        self.check("nullif", (1, None), 1)
        self.check("nullif", (None, 1), None)
        self.check("nullif", (None, CAST), None)
        self.check("nullif", (CAST, 1), CAST)
        self.check("nullif", (SIZE, DIV), SIZE)
        self.check("nullif", (1, CAST), CAST)


if __name__ == "__main__":
    unittest.main()
