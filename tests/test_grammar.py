import random
import time
import unittest

import earley
import generated
from entablature.errors import BadText, TooMuch
from entablature.grammar import parse
from entablature.words import words


def expr(text):
    """The tree of an expression, its places counted from its own first sign."""
    tree = parse("SELECT " + text)
    return shifted(tree[2][2][0][0], -7)


def shifted(tree, far):
    if type(tree) is not tuple or not tree:
        return tree
    if type(tree[0]) is not str or len(tree) == 2:
        return tuple([shifted(part, far) for part in tree])
    return tuple([shifted(part, far) for part in tree[:-1]]) + (tree[-1] + far,)


def name(text, at):
    return ("name", None, text, at)


def lit(value, at):
    return ("lit", value, at)


class Expressions(unittest.TestCase):

    def check(self, text, tree):
        got = expr(text)
        self.assertEqual(got, tree, text)
        self.assertEqual(repr(got), repr(tree), text)

    def test_atoms(self):
        self.check("12", lit(12, 0))
        self.check("'ab'", lit("ab", 0))
        self.check("TRUE", lit(True, 0))
        self.check("false", lit(False, 0))
        self.check("Null", lit(None, 0))
        self.check("a", name("a", 0))
        self.check("t . a", ("name", "t", "a", 0))
        self.check("(a)", name("a", 1))
        self.check("((12))", lit(12, 2))

    def test_operators(self):
        for mark, told in [("+", "add"), ("-", "sub"), ("*", "mul"), ("/", "div"), ("=", "eq"), ("<>", "ne"), ("<", "lt"),
                           ("<=", "le"), (">", "gt"), (">=", "ge"), ("||", "cat"), ("AND", "and"), ("or", "or"),
                           ("Like", "like")]:
            at = 3 + len(mark)
            self.check(f"a {mark} b", ("op", told, (name("a", 0), name("b", at)), 0))
        self.check("- a", ("op", "neg", (name("a", 2),), 0))
        self.check("NOT a", ("op", "not", (name("a", 4),), 0))
        self.check("--1", ("op", "neg", (("op", "neg", (lit(1, 2),), 1),), 0))
        self.check("NOT NOT a", ("op", "not", (("op", "not", (name("a", 8),), 4),), 0))

    def test_places_of_operators_are_those_of_their_first_arguments(self):
        self.check("(a) + b", ("op", "add", (name("a", 1), name("b", 6)), 1))
        self.check("(-a) IS NULL", ("op", "isnull", (("op", "neg", (name("a", 2),), 1),), 1))
        self.check("(a) NOT LIKE b", ("op", "not", (("op", "like", (name("a", 1), name("b", 13)), 1),), 1))

    def test_how_closely_they_bind(self):
        self.check("a + b * c", ("op", "add", (name("a", 0), ("op", "mul", (name("b", 4), name("c", 8)), 4)), 0))
        self.check("a - b + c", ("op", "add", (("op", "sub", (name("a", 0), name("b", 4)), 0), name("c", 8)), 0))
        self.check("a * b / c", ("op", "div", (("op", "mul", (name("a", 0), name("b", 4)), 0), name("c", 8)), 0))
        self.check("a - (b - c)", ("op", "sub", (name("a", 0), ("op", "sub", (name("b", 5), name("c", 9)), 5)), 0))
        self.check("- a * b", ("op", "mul", (("op", "neg", (name("a", 2),), 0), name("b", 6)), 0))
        self.check("a * - b", ("op", "mul", (name("a", 0), ("op", "neg", (name("b", 6),), 4)), 0))
        self.check("a OR b AND c", ("op", "or", (name("a", 0), ("op", "and", (name("b", 5), name("c", 11)), 5)), 0))
        self.check("a AND b OR c", ("op", "or", (("op", "and", (name("a", 0), name("b", 6)), 0), name("c", 11)), 0))
        self.check("NOT a = b", ("op", "not", (("op", "eq", (name("a", 4), name("b", 8)), 4),), 0))
        self.check("NOT a AND b", ("op", "and", (("op", "not", (name("a", 4),), 0), name("b", 10)), 0))
        self.check("a AND NOT b", ("op", "and", (name("a", 0), ("op", "not", (name("b", 10),), 6)), 0))
        self.check("a = b + c", ("op", "eq", (name("a", 0), ("op", "add", (name("b", 4), name("c", 8)), 4)), 0))
        self.check("a OR b OR c", ("op", "or", (("op", "or", (name("a", 0), name("b", 5)), 0), name("c", 10)), 0))
        self.check("a = b AND c < d", ("op", "and", (("op", "eq", (name("a", 0), name("b", 4)), 0),
                                                     ("op", "lt", (name("c", 10), name("d", 14)), 10)), 0))

    def test_states(self):
        a = name("a", 0)
        self.check("a IS NULL", ("op", "isnull", (a,), 0))
        self.check("a IS NOT NULL", ("op", "not", (("op", "isnull", (a,), 0),), 0))
        self.check("a IS TRUE", ("op", "same", (a, lit(True, 2)), 0))
        self.check("a IS FALSE", ("op", "same", (a, lit(False, 2)), 0))
        self.check("a IS NOT TRUE", ("op", "not", (("op", "same", (a, lit(True, 2)), 0),), 0))
        self.check("a + 1 IS NULL", ("op", "isnull", (("op", "add", (a, lit(1, 4)), 0),), 0))

    def test_between_like_in(self):
        a = name("a", 0)
        both = ("op", "and", (("op", "ge", (a, lit(1, 10)), 0), ("op", "le", (a, lit(2, 16)), 0)), 0)
        self.check("a BETWEEN 1 AND 2", both)
        self.check("a BETWEEN 1 AND 2 AND b", ("op", "and", (both, name("b", 22)), 0))
        both = ("op", "and", (("op", "ge", (a, lit(1, 14)), 0), ("op", "le", (a, lit(2, 20)), 0)), 0)
        self.check("a NOT BETWEEN 1 AND 2", ("op", "not", (both,), 0))
        self.check("a NOT LIKE 'x'", ("op", "not", (("op", "like", (a, lit("x", 11)), 0),), 0))
        eq = [("op", "eq", (a, lit(number, 6 + 3 * at)), 0) for at, number in enumerate((5, 6, 7))]
        self.check("a IN (5)", eq[0])
        self.check("a IN (5, 6)", ("op", "or", (eq[0], eq[1]), 0))
        self.check("a IN (5, 6, 7)", ("op", "or", (("op", "or", (eq[0], eq[1]), 0), eq[2]), 0))
        self.check("a NOT IN (5)", ("op", "not", (("op", "eq", (a, lit(5, 10)), 0),), 0))
        query = ("query", (), ("select", False, ((lit(1, 13), None),), (), None, None, None, 6), (), None, 0, 6)
        self.check("a IN (SELECT 1)", ("in", a, query, 0))
        self.check("a NOT IN (SELECT 1)", ("op", "not", (("in", a, shifted(query, 4), 0),), 0))

    def test_queries_in_expressions(self):
        query = ("query", (), ("select", False, ((lit(1, 8), None),), (), None, None, None, 1), (), None, 0, 1)
        self.check("(SELECT 1)", ("scalar", query, 0))
        self.check("((SELECT 1))", ("scalar", shifted(query, 1), 1))
        self.check("EXISTS (SELECT 1)", ("exists", shifted(query, 7), 0))
        inner = ("query", (), shifted(query, 8), (), None, 0, 8)
        self.check("EXISTS ((SELECT 1))", ("exists", inner, 0))
        values = ("query", (), ("values", ((lit(1, 9),), (lit(2, 14),)), 1), (), None, 0, 1)
        self.check("(VALUES (1), (2))", ("scalar", values, 0))

    def test_case(self):
        self.check("CASE WHEN a THEN 1 END", ("case", ((name("a", 10), lit(1, 17)),), lit(None, 19), 0))
        self.check("CASE WHEN a THEN 1 WHEN b THEN 2 ELSE 3 END",
                   ("case", ((name("a", 10), lit(1, 17)), (name("b", 24), lit(2, 31))), lit(3, 38), 0))

    def test_functions(self):
        for told, many in [("mod", 2), ("abs", 1), ("size", 1), ("upper", 1), ("lower", 1), ("part", 3), ("number", 1),
                           ("words", 1), ("coalesce", 2), ("nullif", 2), ("most", 2), ("least", 2)]:
            at = len(told) + 1
            args = tuple([name("a", at + 2 * number) for number in range(many)])
            self.check(f"{told}({','.join(['a'] * many)})", ("op", told, args, 0))
            self.check(f"{told}({','.join(['a'] * (many + 1))})",
                       ("call", told, False, tuple([name("a", at + 2 * number) for number in range(many + 1)]), False, None, 0))
            self.check(f"{told}(DISTINCT {','.join(['a'] * many)})",
                       ("call", told, True, tuple([name("a", at + 9 + 2 * number) for number in range(many)]), False, None, 0))
            self.check(f"{told}({','.join(['a'] * many)}) OVER ()",
                       ("call", told, False, args, False, ((), (), None), 0))
            self.check(f"{told}()", ("call", told, False, (), False, None, 0))
        for told in "eq ne lt le gt ge add sub mul div cat neg isnull same".split():
            self.check(f"{told}(a)", ("call", told, False, (name("a", len(told) + 1),), False, None, 0))
            self.assertEqual(expr(f"{told}(a, b)")[0], "call")

    def test_calls(self):
        self.check("count(*)", ("call", "count", False, (), True, None, 0))
        self.check("count(DISTINCT a)", ("call", "count", True, (name("a", 15),), False, None, 0))
        self.check("foo()", ("call", "foo", False, (), False, None, 0))
        self.check("sum(a, b)", ("call", "sum", False, (name("a", 4), name("b", 7)), False, None, 0))
        self.check("foo(*)", ("call", "foo", False, (), True, None, 0))
        self.check("rank() OVER ()", ("call", "rank", False, (), False, ((), (), None), 0))
        self.check("sum(a) OVER (PARTITION BY b, c ORDER BY d DESC, e)",
                   ("call", "sum", False, (name("a", 4),), False,
                    ((name("b", 26), name("c", 29)), ((name("d", 40), True, True), (name("e", 48), False, False)), None), 0))

    def test_frames(self):
        edges = {"UNBOUNDED PRECEDING": ("start", 0), "5 PRECEDING": ("before", 5), "CURRENT ROW": ("here", 0),
                 "0 FOLLOWING": ("after", 0), "UNBOUNDED FOLLOWING": ("end", 0), "2000 PRECEDING": ("before", 2000)}
        for first, one in edges.items():
            for last, other in edges.items():
                tree = expr(f"sum(a) OVER (ROWS BETWEEN {first} AND {last})")
                self.assertEqual(tree[5], ((), (), (one, other)))

    def test_items(self):
        flags = {"": (False, False), "ASC": (False, False), "DESC": (True, True), "NULLS FIRST": (False, True),
                 "NULLS LAST": (False, False), "ASC NULLS FIRST": (False, True), "ASC NULLS LAST": (False, False),
                 "DESC NULLS FIRST": (True, True), "DESC NULLS LAST": (True, False)}
        for text, told in flags.items():
            tree = parse(f"SELECT a ORDER BY b {text}")
            self.assertEqual(tree[3], ((name("b", 18),) + told,))
            self.assertEqual([type(part) for part in tree[3][0][1:]], [bool, bool])


class Queries(unittest.TestCase):

    def select(self, text):
        return parse(text)[2]

    def test_a_whole_query(self):
        self.assertEqual(
            parse(" SELECT a, b AS c FROM t WHERE d GROUP BY e, f HAVING g ORDER BY h LIMIT 3 OFFSET 4"),
            ("query", (), ("select", False, ((name("a", 8), None), (name("b", 11), "c")), (("table", "t", "t", 23),),
                           name("d", 31), (name("e", 42), name("f", 45)), name("g", 54), 1),
             ((name("h", 65), False, False),), 3, 4, 1))

    def test_little_queries(self):
        self.assertEqual(parse("SELECT 1"), ("query", (), ("select", False, ((lit(1, 7), None),), (), None, None, None, 0),
                                             (), None, 0, 0))
        self.assertEqual(self.select("SELECT DISTINCT 1")[1], True)
        self.assertEqual(parse("SELECT 1 OFFSET 0")[4:6], (None, 0))
        self.assertEqual(parse("SELECT 1 LIMIT 0")[4:6], (0, 0))
        self.assertEqual(parse("SELECT 1 LIMIT 2000 OFFSET 2000")[4:6], (2000, 2000))

    def test_stars(self):
        self.assertEqual(self.select("SELECT * FROM t")[2], (("all", 7),))
        self.assertEqual(self.select("SELECT a, t.*, b FROM t")[2], ((name("a", 7), None), ("all", "t", 10), (name("b", 15), None)))
        self.assertEqual(self.select("SELECT t . * FROM t")[2], (("all", "t", 7),))

    def test_sources(self):
        self.assertEqual(self.select("SELECT * FROM t, u AS x, v y")[3],
                         (("table", "t", "t", 14), ("table", "u", "x", 17), ("table", "v", "y", 25)))
        told = self.select("SELECT * FROM a JOIN b ON x LEFT JOIN c ON y CROSS JOIN d")[3]
        first = ("joined", "inner", ("table", "a", "a", 14), ("table", "b", "b", 21), name("x", 26), 14)
        second = ("joined", "left", first, ("table", "c", "c", 38), name("y", 43), 14)
        self.assertEqual(told, (("joined", "cross", second, ("table", "d", "d", 56), None, 14),))
        for word in ("INNER", "LEFT", "RIGHT", "FULL"):
            self.assertEqual(self.select(f"SELECT * FROM a {word} JOIN b ON x")[3][0][1], word.lower())
        query = ("query", (), ("select", False, ((lit(1, 22), None),), (), None, None, None, 15), (), None, 0, 15)
        self.assertEqual(self.select("SELECT * FROM (SELECT 1) x")[3], (("sub", query, "x", 14),))
        self.assertEqual(self.select("SELECT * FROM (SELECT 1) AS x")[3], (("sub", query, "x", 14),))
        inner = ("query", (), shifted(query, 1), (), None, 0, 15)
        self.assertEqual(self.select("SELECT * FROM ((SELECT 1)) x")[3], (("sub", inner, "x", 14),))

    def test_sets(self):
        def one(number, at):
            return ("select", False, ((lit(number, at + 7), None),), (), None, None, None, at)
        self.assertEqual(self.select("SELECT 1 UNION SELECT 2"), ("set", "union", False, one(1, 0), one(2, 15), 0))
        self.assertEqual(self.select("SELECT 1 EXCEPT ALL SELECT 2"), ("set", "except", True, one(1, 0), one(2, 20), 0))
        self.assertEqual(self.select("SELECT 1 UNION SELECT 2 INTERSECT SELECT 3"),
                         ("set", "union", False, one(1, 0), ("set", "intersect", False, one(2, 15), one(3, 34), 15), 0))
        self.assertEqual(self.select("SELECT 1 INTERSECT ALL SELECT 2 UNION SELECT 3 EXCEPT SELECT 4")[1:3], ("except", False))
        inner = ("query", (), one(1, 1), (), None, 0, 1)
        self.assertEqual(self.select("(SELECT 1) UNION SELECT 2"), ("set", "union", False, inner, one(2, 17), 0))
        self.assertEqual(parse("((SELECT 1)) LIMIT 1"),
                         ("query", (), ("query", (), shifted(inner, 1), (), None, 0, 1), (), 1, 0, 0))
        self.assertEqual(self.select("SELECT 1 UNION (SELECT 2 LIMIT 1) LIMIT 5")[4][4], 1)

    def test_values_and_with(self):
        self.assertEqual(self.select("VALUES (1, a), (2)"), ("values", ((lit(1, 8), name("a", 11)), (lit(2, 16),)), 0))
        tree = parse("WITH a AS (SELECT 1), b AS ((SELECT 2)) SELECT 3")
        self.assertEqual([(cte[0], cte[2]) for cte in tree[1]], [("a", 5), ("b", 22)])
        self.assertEqual(tree[1][0][1], ("query", (), ("select", False, ((lit(1, 18), None),), (), None, None, None, 11), (), None, 0, 11))
        self.assertEqual(tree[1][1][1][6], 28)
        self.assertEqual(tree[1][1][1][2][6], 29)
        self.assertEqual((tree[2][7], tree[6]), (40, 0))
        self.assertEqual(parse("WITH a AS (SELECT 1) (SELECT 2)")[2][0], "query")


class Mistakes(unittest.TestCase):

    def refused(self, text, at):
        with self.assertRaises(BadText, msg=text) as caught:
            parse(text)
        self.assertEqual(caught.exception.at, at, text)

    def test_mistakes(self):
        for text, at in [("", 0), ("  ", 2), ("SELECT", 6), ("SELECT ", 7), ("SELECT *, a", 8), ("a", 0), ("SELECT a b", 9),
                         ("SELECT 1 1", 9), ("SELECT a = b = c", 13), ("SELECT a IS NULL IS NULL", 17),
                         ("SELECT a BETWEEN 1 OR 2", 19), ("SELECT a NOT b", 13), ("SELECT a = NOT b", 11),
                         ("SELECT - NOT a", 9), ("SELECT ()", 8), ("SELECT a IN ()", 13), ("SELECT CASE END", 12),
                         ("SELECT CASE WHEN a END", 19), ("SELECT t.", 9), ("SELECT t.(a)", 9), ("SELECT t.a(b)", 10),
                         ("SELECT a FROM", 13), ("SELECT a FROM (SELECT 1)", 24), ("SELECT a FROM (t)", 15),
                         ("SELECT a FROM t JOIN u", 22), ("SELECT a FROM t CROSS u", 22), ("SELECT a FROM t LEFT u", 21),
                         ("SELECT a FROM t CROSS JOIN u ON a", 29), ("SELECT a WHERE", 14), ("SELECT a GROUP b", 15),
                         ("SELECT a LIMIT b", 15), ("SELECT a LIMIT 2001", 15), ("SELECT a OFFSET 2001", 16),
                         ("SELECT a OFFSET 1 LIMIT 1", 18), ("SELECT a LIMIT -1", 15), ("(SELECT 1", 9), ("SELECT 1)", 8),
                         ("((a))", 2), ("VALUES 1", 7), ("VALUES ()", 8), ("VALUES (1),", 11), ("WITH a (SELECT 1)", 7),
                         ("WITH a AS SELECT 1", 10), ("WITH a AS (SELECT 1)", 20), ("WITH select AS (SELECT 1) SELECT 1", 5),
                         ("SELECT 1 UNION", 14), ("SELECT 1 UNION ALL ALL", 19), ("SELECT count(* )) ", 16),
                         ("SELECT count(*, a)", 14), ("SELECT count(DISTINCT)", 21), ("SELECT count(DISTINCT *)", 22),
                         ("SELECT f(a", 10), ("SELECT rank() OVER", 18), ("SELECT rank() OVER (ORDER a)", 26),
                         ("SELECT rank() OVER (ROWS 1 PRECEDING)", 25),
                         ("SELECT sum(a) OVER (ROWS BETWEEN 2001 PRECEDING AND CURRENT ROW)", 33),
                         ("SELECT sum(a) OVER (ROWS BETWEEN UNBOUNDED AND CURRENT ROW)", 43),
                         ("SELECT sum(a) OVER (ORDER BY a PARTITION BY b)", 31), ("SELECT EXISTS (5)", 15),
                         ("SELECT EXISTS SELECT 1", 14), ("SELECT ((SELECT 1) UNION SELECT 2)", 19),
                         ("SELECT a IN (SELECT 1, 2) + 1 FROM", 26), ("SELECT a ORDER BY b NULLS", 25),
                         ("SELECT a ORDER BY b DESC ASC", 25), ("SELECT a AS 5", 12), ("SELECT a AS select", 12),
                         ("SELECT a FROM t AS", 18), ("SELECT a IS 5", 12), ("SELECT a LIKE b LIKE c", 16),
                         ("SELECT 5.a", 8), ("SELECT 12ab", 9), ("SELECT t.* + 1", 11), ("SELECT a IN b", 12),
                         ("SELECT a + b NOT IN (1) NOT IN (2)", 24), ("SELECT not(a) = b = c", 18)]:
            self.refused(text, at)

    def test_what_is_no_thing(self):
        self.refused("SELECT a ! b", 9)
        self.refused("SELECT ! b", 7)
        self.refused("SELECT a b !", 9)
        self.refused("SELECT Foo", 7)
        # A text that is none is a mistake where it goes wrong, whatever might stand there.
        self.refused("SELECT 'a\tb'", 9)
        self.refused("SELECT a 'b\tc'", 11)
        self.refused("SELECT a 'b", 9)
        self.refused("SELECT 1 LIMIT " + "1" * 19, 15)
        self.refused("SELECT 1 !", 9)
        self.refused("SELECT a\tFROM t", 8)

    def test_lengths(self):
        text = "SELECT 1" + " " * 2992
        self.assertEqual(parse(text)[6], 0)
        with self.assertRaises(TooMuch):
            parse(text + " ")
        with self.assertRaises(TooMuch):
            parse("!" * 3001)
        self.refused("!" * 3000, 0)

    def test_nesting(self):
        for opening, closing in [("(", ")"), ("-", ""), ("NOT ", ""), ("abs(", ")"), ("f(", ")"),
                                 ("CASE WHEN ", " THEN 1 END"), ("count(*) OVER (PARTITION BY ", ")"),
                                 ("(SELECT ", ")"), ("EXISTS (SELECT ", ")"), ("a IN (SELECT ", ")"),
                                 ("count(*) OVER (ORDER BY ", ")"), ("CASE WHEN TRUE THEN 1 ELSE ", " END")]:
            deep = "SELECT " + opening * 11 + "a" + closing * 11
            self.assertEqual(parse(deep)[0], "query")
            at = 7 + 11 * len(opening)
            if "SELECT" in opening:
                at += opening.index("SELECT")
            self.refused("SELECT " + opening * 12 + "a" + closing * 12, at)
            self.refused("SELECT " + opening * 12, at)

    def test_brackets_around_queries_count_nothing_more(self):
        self.assertEqual(parse("(" * 11 + "SELECT 1" + ")" * 11)[0], "query")
        self.refused("(" * 12 + "SELECT 1" + ")" * 12, 12)
        self.refused("(" * 12, 12)
        self.refused("(" * 13, 12)
        inside = "SELECT 1"
        for at in range(11):
            inside = f"SELECT * FROM ({inside}) AS t"
        self.assertEqual(parse(inside)[0], "query")
        self.refused("SELECT * FROM (" * 12, 15 * 12)
        self.refused("WITH a AS (" * 12 + "SELECT", 11 * 12)

    def test_what_counts_in_nesting(self):
        self.assertEqual(parse("SELECT " + "(" * 11 + "a NOT IN (1, b IS NOT NULL)" + ")" * 11)[0], "query")
        self.refused("SELECT " + "(" * 11 + "NOT a" + ")" * 11, 18)
        self.refused("SELECT " + "(" * 11 + "a IN (-1)" + ")" * 11, 24)
        # What is beside does not count.
        self.assertEqual(parse("SELECT " + "(" * 11 + "a" + ")" * 11 + " + (b) + abs(-c)")[0], "query")
        # A bracket that is nested too deep is one of an expression unless a query is meant.
        self.refused("SELECT " + "(" * 11 + "(", 18)
        self.refused("SELECT " + "(" * 11 + "(SELECT 1", 19)
        self.refused("SELECT " + "(" * 11 + "('x\t", 18)
        self.refused("SELECT " + "(" * 11 + "f", 19)
        self.refused("SELECT " + "(" * 11 + "f(", 18)

    def test_what_is_over_is_nested_no_more(self):
        for text in ["(a)", "-a", "NOT a", "abs(a)", "f(a)", "CASE WHEN a THEN b ELSE c END", "count(*) OVER (PARTITION BY a)", "(SELECT a)",
                     "EXISTS (SELECT a)", "a IN (SELECT a)", "a IN (1)", "(SELECT a FROM (SELECT b) x)"]:
            many = ", ".join([text] * 14)
            self.assertEqual(len(parse(f"SELECT {many}")[2][2]), 14)
            self.assertEqual(parse(f"SELECT {many}, {'(' * 11}a{')' * 11}")[0], "query")
            self.refused(f"SELECT {many}, {'(' * 12}a{')' * 12}", 7 + len(many) + 2 + 11)
            self.assertEqual(parse(f"SELECT {many}, {'a IN (' * 57}a{')' * 57}")[0], "query")
            with self.assertRaises(TooMuch):
                parse(f"SELECT {many}, {'a IN (' * 61} !")
        with_many = ", ".join([f"w{at} AS (SELECT 1)" for at in range(14)])
        self.assertEqual(len(parse(f"WITH {with_many} SELECT 1")[1]), 14)
        self.assertEqual(len(parse("SELECT 1 FROM " + ", ".join([f"(SELECT 1) x{at}" for at in range(14)]))[2][3]), 14)
        self.assertEqual(parse(" UNION ".join(["(SELECT 1)"] * 14))[0], "query")

    def test_lists_in_lists(self):
        with self.assertRaises(TooMuch):
            parse("SELECT " + "a IN (" * 61)
        with self.assertRaises(TooMuch):
            parse("SELECT " + "a IN (" * 61 + "! " + ")" * 61)
        self.refused("SELECT " + "a IN (" * 60, 7 + 360)
        self.refused("SELECT " + "a IN (" * 60 + "a" + ")" * 60 + " !", 7 + 360 + 1 + 60 + 1)
        with self.assertRaises(TooMuch):
            parse("SELECT " + "a IN (" * 60 + "a" + ")" * 60)
        self.assertEqual(parse("SELECT " + "a IN (" * 57 + "a" + ")" * 57)[0], "query")
        self.assertEqual(parse("SELECT " + ", ".join(["a IN (1)"] * 200))[0], "query")

    def test_deep_and_large_trees(self):
        self.assertEqual(parse("SELECT " + "+".join(["a"] * 58))[0], "query")
        with self.assertRaises(TooMuch):
            parse("SELECT " + "+".join(["a"] * 59))
        self.refused("SELECT " + "+".join(["a"] * 59) + " !", 7 + 117 + 1)
        # A list of n stands for n - 1 or, n eq, n names and n numbers.
        self.assertEqual(parse("SELECT " + ",".join(["a IN (1)"] * 100))[0], "query")
        inner = "a"
        for _ in range(9):
            inner = f"({inner} BETWEEN 1 AND 2)"
        self.assertEqual(parse("SELECT " + inner)[0], "query")
        with self.assertRaises(TooMuch):
            parse("SELECT " + ", ".join([inner] * 2))
        wide = "(" * 10 + "a" + " BETWEEN 1 AND 2)" * 10
        with self.assertRaises(TooMuch):
            parse("SELECT " + wide)
        with self.assertRaises(TooMuch):
            parse("SELECT " + "(" * 11 + "a" + " IN (1,2,3,4,5,6,7,8,9))" * 11)

    def test_depth_at_each_place(self):
        def deep(tree):
            """How deep a tree is nested; its words tell which tuples count."""
            if type(tree) is not tuple or not tree:
                return 0
            below = max([deep(part) for part in tree])
            words = "query set values select table sub joined lit name op in scalar exists case call".split()
            return below + (1 if type(tree[0]) is str and tree[0] in words and len(tree) > 2 else 0)
        for text in ["SELECT @", "SELECT 1, @ AS x", "SELECT 1 WHERE @", "SELECT 1 GROUP BY a, @", "SELECT 1 HAVING @", "SELECT 1 ORDER BY a, @",
                     "SELECT 1 FROM t JOIN u ON @", "SELECT 1 FROM t JOIN (SELECT @) x ON b", "SELECT 1 FROM (SELECT @) x JOIN t ON b",
                     "SELECT 1 FROM t, (SELECT @) x", "SELECT 1 FROM (SELECT @) x CROSS JOIN t", "WITH w AS (SELECT @) SELECT 1", "VALUES (1), (2, @)",
                     "SELECT @ UNION SELECT 1", "SELECT 1 EXCEPT SELECT @", "SELECT 1 INTERSECT ALL (SELECT @)", "((SELECT @))", "SELECT (SELECT @)",
                     "SELECT EXISTS (SELECT @)", "SELECT a IN (SELECT @)", "SELECT (@) IN (SELECT 1)", "SELECT (@) IN (1, 2)", "SELECT 1 IN (2, @)",
                     "SELECT CASE WHEN @ THEN 1 END", "SELECT CASE WHEN a THEN @ END", "SELECT CASE WHEN a THEN 1 ELSE @ END", "SELECT f(a, @)",
                     "SELECT mod(@, 1)", "SELECT f() OVER (PARTITION BY a, @)", "SELECT f() OVER (ORDER BY a, @)", "SELECT NOT (@)", "SELECT - (@)",
                     "SELECT (@) IS NOT TRUE", "SELECT a BETWEEN 1 AND @", "SELECT 1 UNION SELECT 2 UNION SELECT @", "SELECT 1 FROM t JOIN u ON @ JOIN v ON TRUE"]:
            fits = 60 - deep(parse(text.replace("@", "+".join(["a"] * 40)))) + 40
            tree = parse(text.replace("@", "+".join(["a"] * fits)))
            self.assertEqual(deep(tree), 60, text)
            with self.assertRaises(TooMuch, msg=text):
                parse(text.replace("@", "+".join(["a"] * (fits + 1))))

    def test_the_number_of_parts(self):
        # A query, a select and 20 outs of 249 parts each: an "a" in 2 ** 6 places and so on.
        def parts(tree):
            if type(tree) is not tuple or not tree:
                return 0
            below = sum([parts(part) for part in tree])
            node = type(tree[0]) is str and tree[0] in ("query", "select", "op", "name", "lit")
            return below + (1 if node and len(tree) > 2 else 0)
        inner = "a"
        for _ in range(8):
            inner = f"({inner} BETWEEN 1 AND 2)"
        big = parts(parse("SELECT " + inner)) - 2
        three = parse("SELECT " + ", ".join([inner] * 3))
        self.assertEqual(parts(three), 2 + 3 * big)
        left = 5000 - parts(three)
        fill = ", ".join(["1"] * left)
        self.assertLess(len(fill), 2700)
        self.assertEqual(parse("SELECT " + ",".join([inner] * 3 + ["1"] * left))[0], "query")
        with self.assertRaises(TooMuch):
            parse("SELECT " + ",".join([inner] * 3 + ["1"] * (left + 1)))

    def test_names_like_words_of_trees(self):
        for word in "query set table sub joined lit name op scalar call start before here after".split():
            tree = parse(f"WITH {word} AS (SELECT 1 AS {word}) SELECT {word}.{word} FROM {word} AS {word}")
            self.assertEqual(tree[1][0][0], word)

    def test_texts_cut_behind_each_thing(self):
        for seed in range(60):
            text = generated.query(seed)
            for _, _, at in words(text):
                cut = text[:at]
                try:
                    parse(cut)
                except BadText as e:
                    self.assertEqual(e.at, len(cut), cut)

    def test_against_another_reader(self):
        pool = """SELECT FROM WHERE GROUP BY ORDER ( ) , . * + - = a b 5 3000 'x' NOT IN AND OR IS NULL BETWEEN LIKE AS
        JOIN LEFT ON UNION ALL VALUES WITH EXISTS CASE WHEN THEN ELSE END OVER ROWS CURRENT ROW LIMIT OFFSET DISTINCT TRUE
        PARTITION UNBOUNDED PRECEDING DESC NULLS FIRST <> || INTERSECT HAVING CROSS""".split()
        for seed in range(1500):
            text = generated.query(seed)
            if len(text) > 160:
                continue
            rnd = random.Random(seed)
            places = [thing[2] for thing in words(text)] + [len(text)]
            things = [text[places[at]:places[at + 1]].strip() for at in range(len(places) - 1)]
            for _ in range(3):
                other = list(things)
                for _ in range(rnd.randrange(3)):
                    at = rnd.randrange(len(other))
                    roll = rnd.randrange(3)
                    if roll == 0 and len(other) > 1:
                        del other[at]
                    elif roll == 1:
                        other.insert(at, rnd.choice(pool))
                    else:
                        other[at] = rnd.choice(pool)
                told = " ".join(other)
                try:
                    parse(told)
                    got = None
                except BadText as e:
                    got = e.at
                self.assertEqual(got, earley.mistake(words(told), len(told)), told)

    def test_long_queries_are_quick(self):
        began = time.process_time()
        for _ in range(20):
            parse("SELECT " + ",".join(["1"] * 1490))
            parse("SELECT a FROM t WHERE a IN (" + ",".join(["1"] * 50) + ")")
        self.assertLess(time.process_time() - began, 10)


if __name__ == "__main__":
    unittest.main()
