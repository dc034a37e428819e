"""Programs: their form, what does not fit, their footprints and shapes, and the choices of the web."""

import itertools
import unittest

from entablature.database import Database
from entablature.errors import BadForm, BadKey, BadKind, BadName, BadText, NoSuch, TooMuch
from entablature.programs import check_program, check_values, footprint, key_column, run_footprint, shape
from entablature.web import choices, literals
from short import col, num, op, text

T = ("t", (("a", "int", False), ("b", "text", True), ("c", "bool", True)), ((0,),))
U = ("u", (("x", "int", True), ("k", "text", False)), ((1,),))
NONE = ("none", (("a", "int", False),), ())
TWO = ("two", (("a", "int", False), ("b", "int", False)), ((0,), (1,)))
WIDE = ("wide", (("a", "int", False), ("b", "int", False)), ((0, 1),))
FLAG = ("flag", (("a", "bool", False),), ((0,),))
TRUE = ("const", "bool", True)


def database():
    told = Database()
    for schema in (T, U, NONE, TWO, WIDE, FLAG):
        told.create(schema)
    told.view("seen", "SELECT t.a AS n FROM t, none WHERE t.a = none.a")
    return told


def program(*statements, params=("int", "text"), name="p"):
    return (name, params, statements)


P0, P1 = ("param", 0), ("param", 1)
READ = ("read", "t", P0)


class Forms(unittest.TestCase):

    def good(self, told):
        self.assertIsNone(check_program(told, database()))

    def bad(self, told, error=BadForm):
        with self.assertRaises(error) as why:
            check_program(told, database())
        if error in (BadKind,):
            self.assertEqual(why.exception.at, -1)

    def test_right_programs(self):
        self.good(program(READ))
        self.good(("p", (), (("ask", "SELECT 1"),)))
        self.good(program(("set", "t", P0, ((1, text("a")), (2, TRUE)))))
        self.good(program(("set", "t", ("value", 3), ((1, col(3)),))))
        self.good(program(READ, ("set", "t", ("value", -3), ((1, op("cat", col(1), col(3))), (2, op("eq", col(2), col(5)))))))
        self.good(program(("put", "u", (op("add", col(0), num(1)), P1)), ("drop", "u", ("value", "it's")),
                          ("put", "t", (P0, col(1), ("case", ((TRUE, TRUE),), ("const", "bool", None))))))
        self.good(program(*[READ for _ in range(12)], params=("int",)))
        self.good(program(("ask", "SELECT n FROM seen"), ("ask", "VALUES (1)"), params=("bool", "bool", "int", "int", "text", "int")))
        self.good(program(("read", "u", ("value", "x" * 200)), ("read", "t", ("value", 10 ** 18 - 1))))
        deep = num(1)
        for _ in range(11):
            deep = op("neg", deep)
        self.good(program(("put", "u", (deep, P1))))
        wide = num(1)
        for _ in range(5):
            wide = op("add", wide, wide)
        self.good(program(("put", "u", (wide, P1))))
        wide = op("add", wide, wide)
        self.bad(program(("put", "u", (wide, P1))))

    def test_what_is_no_program(self):
        for told in (None, 5, "p", [], (), ("p", ()), ("p", (), (), ()), ["p", (), (("ask", "SELECT 1"),)],
                     ("P", (), (("ask", "SELECT 1"),)), ("", (), (("ask", "SELECT 1"),)), ("select", (), (("ask", "SELECT 1"),)),
                     (5, (), (("ask", "SELECT 1"),)), ("p", [], (("ask", "SELECT 1"),)), ("p", ("int",) * 7, (READ,)),
                     ("p", ("number",), (READ,)), ("p", (None,), (READ,)), ("p", ([],), (READ,)), ("p", (), ()),
                     ("p", ("int",), [READ]), ("p", ("int",), (READ,) * 13), ("p", None, (READ,)), ("p", ("int",), None)):
            self.bad(told)

    def test_what_is_no_statement(self):
        for told in (None, 5, "read", (), ("read",), ("read", "t"), ("read", "t", P0, P0), ("look", "t", P0), ["read", "t", P0],
                     ("read", 5, P0), ("read", None, P0), ("read", "t", None), ("read", "t", 5), ("read", "t", ("param",)),
                     ("read", "t", ("param", 2)), ("read", "t", ("param", -1)), ("read", "t", ("param", True)),
                     ("read", "t", ("param", "0")), ("read", "t", ("param", 0, 0)), ("read", "t", ["param", 0]),
                     ("read", "t", ("value", None)), ("read", "t", ("value", True)), ("read", "t", ("value", 10 ** 18)),
                     ("read", "t", ("value", "x" * 201)), ("read", "t", ("value", "a\nb")), ("read", "t", ("value", ())),
                     ("read", "t", ("key", 0)), ("read", "t", (0, 0)), ("drop", "t"), ("drop", "t", P0, 1), ("ask",), ("ask", 5),
                     ("ask", None), ("ask", "SELECT 1", 1), ("set", "t", P0), ("set", "t", P0, ()), ("set", "t", P0, [(1, num(1))]),
                     ("set", "t", P0, ((1,),)), ("set", "t", P0, ((-1, num(1)),)), ("set", "t", P0, ((True, num(1)),)),
                     ("set", "t", P0, ((1, text("a")), (1, text("a")))), ("set", "t", P0, ((2, TRUE), (1, text("a")))),
                     ("set", "t", P0, ((1, P1),)), ("set", "t", P0, ((1, None),)), ("put", "t"), ("put", "t", ()),
                     ("put", "t", [P0]), ("put", "t", (P0, None)), ("put", "t", (("param", 7), num(1))), ("put", "t", (P0,), 1)):
            self.bad(program(told))
            self.bad(program(READ, told))

    def test_what_is_no_expression(self):
        for expr in (("col", -1), ("col", True), ("col", "0"), ("col",), ("col", 0, 0), ("const", "int"), ("const", "int", "x"),
                     ("const", "int", True), ("const", "bool", 1), ("const", "int", 10 ** 18), ("const", "number", 1),
                     ("const", None, None), ("const", "text", "x" * 201), ("op", "neg", [num(1)]), ("op", 5, (num(1),)),
                     ("op", "neg"), ("op", "neg", (None,)), ("op", "neg", (("outer", 1, 0),)), ("outer", 1, 0),
                     ("scalar", ("rows", ("int",), ())), ("exists", ("scan", "t")), ("in", num(1), ("scan", "none")),
                     ("case", (), num(1)), ("case", [(TRUE, num(1))], num(1)), ("case", ((TRUE,),), num(1)),
                     ("case", ((TRUE, num(1)),)), ("case", ((TRUE, num(1)),), None), ("case", (([TRUE, num(1)]),), num(1)),
                     (), (5,), None, [], "x", ("param", 9), ["col", 0]):
            self.bad(program(("put", "u", (expr, P1))))
            self.bad(program(("set", "u", P1, ((0, expr),))))
        deep = num(1)
        for _ in range(12):
            deep = op("neg", deep)
        self.bad(program(("put", "u", (deep, P1))))
        for _ in range(5000):
            deep = op("neg", deep)
        self.bad(program(("put", "u", (deep, P1))))
        many = op("least", *[num(1)] * 99)
        self.bad(program(("put", "u", (many, P1))), BadKind)
        self.bad(program(("put", "u", (op("least", *[num(1)] * 100), P1))))

    def test_form_goes_first(self):
        self.bad(program(("read", "nothing", P0), ("read", "t", ("param", 9))))
        self.bad(program(("ask", "SELECT ,"), ("put", "u", ())))

    def test_mistakes_statement_by_statement(self):
        self.bad(program(("read", "nothing", P0), ("ask", "SELECT ,")), NoSuch)
        self.bad(program(("ask", "SELECT ,"), ("read", "nothing", P0)), BadText)
        self.bad(program(("ask", "SELECT zz")), BadName)
        self.bad(program(("ask", "SELECT 1" + " " * 3000)), TooMuch)
        with self.assertRaises(BadKind) as why:
            check_program(program(("ask", "SELECT 1 + 'a'")), database())
        self.assertEqual(why.exception.at, 11)
        for word in ("none", "two", "wide", "flag"):
            self.bad(program(("read", word, P0)), BadKey)
            self.bad(program(("put", word, (P0,))), BadKey)
        self.bad(program(("read", "seen", P0)), NoSuch)
        self.bad(program(("read", "No table", P0)), NoSuch)
        self.good(program(("ask", "SELECT two.a FROM none, two, wide, flag")))

    def test_kinds_that_do_not_fit(self):
        for told in (("read", "t", P1), ("read", "u", P0), ("read", "t", ("value", "x")), ("drop", "u", ("value", 5)),
                     ("set", "t", P1, ((1, text("a")),)), ("set", "t", P0, ((1, num(1)),)), ("set", "t", P0, ((3, num(1)),)),
                     ("set", "t", P0, ((0, num(1)),)), ("set", "t", P0, ((1, col(5)),)), ("set", "t", P0, ((1, op("nothing", num(1))),)),
                     ("set", "t", P0, ((1, op("cat", col(1), num(1))),)), ("set", "t", P0, ((1, op("upper")),)),
                     ("set", "t", P0, ((1, ("case", ((num(1), text("a")),), text("b"))),)),
                     ("set", "t", P0, ((1, ("case", ((TRUE, num(1)),), text("b"))),)), ("put", "t", (P0,)),
                     ("put", "t", (P0, text("a"), TRUE, TRUE)), ("put", "t", (num(1), text("a"), TRUE)),
                     ("put", "t", (P1, text("a"), TRUE)), ("put", "t", (P0, P1, TRUE)), ("put", "t", (P0, text("a"), num(1))),
                     ("put", "u", (P1, P1)), ("put", "t", (P0, col(2), TRUE)), ("put", "u", (num(1), col(1)))):
            self.bad(program(told), BadKind)
        self.bad(program(("put", "t", (P0, col(3), TRUE)), READ), BadKind)
        self.good(program(READ, ("put", "t", (P0, col(3), TRUE))))

    def test_values(self):
        told = program(READ, params=("int", "text", "bool"))
        self.assertIsNone(check_values(told, (1, "a", True)))
        self.assertIsNone(check_values(program(("ask", "SELECT 1"), params=()), ()))
        for values in ((1, "a"), (1, "a", True, 1), [1, "a", True], None, (None, "a", True), (True, "a", True), (1, "a", 1),
                       (1, "a", None), (10 ** 18, "a", True), (1, "x" * 201, True), (1, 2, True), "abc", 5):
            with self.assertRaises(BadForm):
                check_values(told, values)

    def test_key_column(self):
        self.assertEqual([key_column(schema) for schema in (T, U, NONE, TWO, WIDE, FLAG)], [0, 1, None, None, None, None])


class Footprints(unittest.TestCase):

    def test_footprint(self):
        told = program(READ, ("set", "t", ("value", 3), ((1, col(3)),)), ("put", "u", (num(1), P1)), ("drop", "u", ("value", "z")),
                       ("ask", "SELECT u.x FROM u, t WHERE EXISTS (SELECT 1 FROM none) AND FALSE"), ("ask", "SELECT n FROM seen"),
                       ("ask", "SELECT 1"), ("put", "t", (P0, text("a"), TRUE)))
        entries = ((("r", "t", P0),), (("r", "t", ("value", 3)), ("w", "t", ("value", 3))), (("w", "u", P1),),
                   (("w", "u", ("value", "z")),), (("a", "none"), ("a", "t"), ("a", "u")), (("a", "none"), ("a", "t")), (),
                   (("w", "t", P0),))
        self.assertEqual(footprint(told, database()), entries)
        self.assertEqual(run_footprint(entries, (7, "q")),
                         ((("r", "t", 7),), (("r", "t", 3), ("w", "t", 3)), (("w", "u", "q"),), (("w", "u", "z"),),
                          (("a", "none"), ("a", "t"), ("a", "u")), (("a", "none"), ("a", "t")), (), (("w", "t", 7),)))
        self.assertEqual(shape(told, database()), ("p", ("int", "text"), (
            ("r", "t", P0), ("r", "t", ("value", 3)), ("w", "t", ("value", 3)), ("w", "u", P1), ("w", "u", ("value", "z")),
            ("a", "none"), ("a", "t"), ("a", "u"), ("a", "none"), ("a", "t"), ("w", "t", P0))))


class Web(unittest.TestCase):

    def test_literals(self):
        shapes = (("p", ("int",), (("r", "t", ("value", 5)), ("w", "u", ("value", "b")), ("a", "t"), ("r", "t", ("param", 0)))),
                  ("q", (), (("w", "t", ("value", -3)), ("r", "u", ("value", "B")), ("w", "t", ("value", 5)))))
        self.assertEqual(literals(shapes, "int"), (-3, 5))
        self.assertEqual(literals(shapes, "text"), ("B", "b"))
        self.assertEqual(literals(shapes, "bool"), ())
        self.assertEqual(literals((), "int"), ())
        self.assertEqual(literals((("p", (), ()),), "text"), ())

    def drawn(self, shapes, place):
        """The choices by their definition: of all tuples of signs those that are choices."""
        _, params, entries = shapes[place]
        keys = {entry[2] for entry in entries if entry[0] != "a"}
        options = [[(0, n) for n in range(len(params))] + [(1, worth) for worth in literals(shapes, kind)] for kind in params]
        found = []
        for signs in itertools.product(*options):
            if all([self.fits(signs, at, params, keys, shapes) for at in range(len(params))]):
                found.append(signs)
        return tuple(sorted(found))

    def fits(self, signs, at, params, keys, shapes):
        earlier = signs[:at]
        least = min([n for n in range(9) if (0, n) not in earlier])
        if signs[at] == (0, least):
            return True
        if ("param", at) not in keys:
            return False
        if signs[at][0] == 1:
            return True
        return any([signs[at] == sign and params[place] == params[at] and ("param", place) in keys
                    for place, sign in enumerate(earlier)])

    def test_choices(self):
        reads = lambda table, *ats: tuple([("r", table, ("param", at)) for at in ats])
        one = ("p", ("int", "int"), reads("t", 0, 1))
        self.assertEqual(choices((one,), 0), (((0, 0), (0, 0)), ((0, 0), (0, 1))))
        other = ("q", ("int", "text", "int"), reads("t", 0, 2) + (("w", "u", ("value", "z")), ("w", "t", ("value", 4))))
        self.assertEqual(choices((one, other), 1), (
            ((0, 0), (0, 1), (0, 0)), ((0, 0), (0, 1), (0, 2)), ((0, 0), (0, 1), (1, 4)),
            ((1, 4), (0, 0), (0, 1)), ((1, 4), (0, 0), (1, 4))))
        self.assertEqual(choices((("p", (), ()),), 0), ((),))
        self.assertEqual(choices((("p", ("bool", "int"), ()),), 0), (((0, 0), (0, 1)),))

    def test_choices_of_several_shapes(self):
        pools = [("int", "int", "int"), ("text", "int", "text", "int"), ("int",), ("bool", "int", "text"), ("text", "text", "bool", "text")]
        for seed, params in enumerate(pools * 3):
            keys = [("param", at) for at, kind in enumerate(params) if kind != "bool" and (at + seed) % 3]
            entries = tuple([("r" if at % 2 else "w", "t" if params[key[1]] == "int" else "u", key) for at, key in enumerate(keys)])
            others = (("o", (), (("r", "t", ("value", 3)), ("w", "u", ("value", "a")), ("w", "u", ("value", "b")), ("a", "t"))[seed % 4:]),)
            shapes = (("p", params, entries + (("a", "u"),)),) + others
            told = choices(shapes, 0)
            self.assertEqual(told, self.drawn(shapes, 0))
            self.assertEqual(list(told), sorted(set(told)))
            self.assertIs(type(told), tuple)


if __name__ == "__main__":
    unittest.main()
