import random
import re
import unittest

import generated
from entablature.errors import PeristyleError, TooMuch
from entablature.grammar import parse
from entablature.printer import printed


def bare(tree):
    """A tree without places; kept apart from the one of the program on purpose."""
    if type(tree) is not tuple or not tree:
        return tree
    if type(tree[0]) is str and not (len(tree) == 2 and tree[0] != "all"):
        if tree[0] == "lit" and type(tree[1]) is not tuple:
            return ("lit", type(tree[1]).__name__, tree[1])
        return tuple([bare(part) for part in tree[:-1]])
    return tuple([bare(part) for part in tree])


EXPRESSIONS = """a|t.a|12|'a'|''''|TRUE|FALSE|NULL|-a|- - a|-(a + b)|a + b - c|a - (b - c)|a * b / c|a * (b / c)|(a + b) * c
a || b + c|a || (b || c)|-a * -b|NOT a|NOT NOT a|NOT a AND b|NOT (a AND b)|(NOT a) = b|a = (NOT b)|a OR b OR c|a OR (b OR c)
a AND b AND c|a AND (b AND c)|(a OR b) AND c|a OR b AND c|a = b|a <> b|a < b|a <= b|a > b|a >= b|a = (b = c)|(a = b) = c
a <> (b OR c)|a < (b AND c)|a IS NULL|a IS NOT NULL|NOT a IS NULL|a IS TRUE|a IS NOT TRUE|a IS FALSE|a IS NOT FALSE
(a IS NULL) IS NULL|(a AND b) IS NULL|a BETWEEN b AND c|a NOT BETWEEN b AND c|NOT a BETWEEN b AND c
a >= 1 AND a <= 2|a >= 1 AND b <= 2|a <= 1 AND a >= 2|(a >= 1 AND a <= 2) AND c|c AND (a >= 1 AND a <= 2)|c AND a >= 1 AND a <= 2
NOT (a >= 1 AND a <= 2)|a LIKE b|a NOT LIKE b|NOT a LIKE b|a IN (b)|a IN (b, c)|a NOT IN (b)|a NOT IN (b, c)|NOT a = b
a IN (b OR c)|a IN (b OR c, d)|a = b OR a = c|a = b OR a = c OR a = d|a = b OR (a = c OR a = d)|a = b OR c = d|x OR a = b OR a = c
a = b OR a = c OR x|1 = b OR TRUE = b|1 = b OR 1 = c|TRUE = b OR TRUE = c|'1' = b OR 1 = b|(a IN (1, 2)) IN (3, 4)
(a OR b) IN (c, d)|a IN (b IN (c, d), e)|a IN (SELECT 1)|a NOT IN (SELECT 1)|NOT a IN (SELECT 1)|(SELECT 1)|EXISTS (SELECT 1)
NOT EXISTS (SELECT 1)|(SELECT 1) + (SELECT 2)|CASE WHEN a THEN b END|CASE WHEN a THEN b ELSE NULL END
CASE WHEN a OR b THEN c = d WHEN e THEN f ELSE NOT g END|mod(a, b)|part(a, b + 1, NOT c)|abs(-a)|coalesce(a, (SELECT 1))
count(*)|count(DISTINCT a)|foo()|foo(a, b OR c)|mod(a)|abs(DISTINCT a)|rank() OVER ()|count(*) OVER (PARTITION BY a, b OR c)
sum(a) OVER (ORDER BY a DESC, b NULLS FIRST, c DESC NULLS LAST)|abs(a) OVER ()
sum(a) OVER (PARTITION BY a ORDER BY b ROWS BETWEEN UNBOUNDED PRECEDING AND 3 FOLLOWING)
sum(a) OVER (ROWS BETWEEN 0 PRECEDING AND CURRENT ROW)|sum(a) OVER (ROWS BETWEEN CURRENT ROW AND UNBOUNDED FOLLOWING)
(a OR b) LIKE c|a LIKE (b = c)|(a BETWEEN b AND c) BETWEEN d AND e|a BETWEEN (b OR c) AND d"""
EXPRESSIONS = re.split(r"(?<![|])[|](?![|])", EXPRESSIONS.replace("\n", "|"))

QUERIES = """SELECT *|SELECT DISTINCT a, b AS c|SELECT t.*, a FROM t|SELECT a FROM t x|SELECT a FROM t t|SELECT a FROM t, u AS v
SELECT a FROM t JOIN u ON x CROSS JOIN v LEFT JOIN w ON y RIGHT JOIN z ON a FULL JOIN q ON b|SELECT a FROM (SELECT 1) x
SELECT a FROM ((SELECT 1)) x|SELECT a FROM ((SELECT 1) UNION SELECT 2) x|SELECT a WHERE b GROUP BY c, d HAVING e ORDER BY f, g DESC
SELECT 1 LIMIT 0|SELECT 1 OFFSET 5|SELECT 1 LIMIT 3 OFFSET 4|SELECT 1 OFFSET 0|VALUES (1, 2), (a, NOT b)|(SELECT 1)|((SELECT 1) LIMIT 1) LIMIT 2
SELECT 1 UNION SELECT 2 UNION ALL SELECT 3|SELECT 1 UNION (SELECT 2 EXCEPT SELECT 3)|SELECT 1 INTERSECT SELECT 2 EXCEPT SELECT 3
(SELECT 1 UNION SELECT 2) INTERSECT ALL SELECT 3|SELECT 1 UNION SELECT 2 ORDER BY 1|SELECT 1 UNION (SELECT 2 ORDER BY 1)
WITH a AS (SELECT 1) SELECT 2|WITH a AS (SELECT 1), b AS (WITH c AS (VALUES (1)) SELECT 2) (SELECT 3) LIMIT 1
WITH lit AS (SELECT 1), before AS (SELECT 2) SELECT * FROM lit, before|SELECT (WITH a AS (SELECT 1) SELECT 2)
VALUES (1) UNION VALUES (2)|SELECT a FROM t WHERE EXISTS ((SELECT 1) UNION SELECT 2)""".replace("\n", "|").split("|")


class Printing(unittest.TestCase):

    def check(self, text):
        tree = parse(text)
        told = printed(tree)
        again = parse(told)
        self.assertEqual(bare(again), bare(tree), (text, told))
        self.assertEqual(printed(again), told)
        return told

    def test_expressions(self):
        for text in EXPRESSIONS:
            self.check("SELECT " + text)
            self.check("SELECT 1 FROM t WHERE (" + text + ") ORDER BY " + text)

    def test_queries(self):
        for text in QUERIES:
            self.check(text)

    def test_every_expression_within_every_other_one(self):
        inner = [text for text in EXPRESSIONS if len(text) < 30]
        for outer in inner:
            for text in inner:
                put = re.sub(r"(?<![a-z.'])a(?![a-z.'])", lambda _: "(" + text + ")", outer, count=1)
                self.check("SELECT " + put)

    def test_trees_that_are_equal_but_for_places_are_printed_alike(self):
        for one, other in [("a BETWEEN 1 AND 2", "a >= 1 AND a <= 2"), ("a IN (1, 2)", "a = 1 OR a = 2"),
                           ("a NOT IN (1)", "NOT a = 1"), ("((a))", "a"), ("a IS NOT NULL", "NOT (a IS NULL)"),
                           ("CASE WHEN a THEN b END", "CASE WHEN a THEN b ELSE NULL END"), ("a  +  b", "a+b"),
                           ("a NOT LIKE b", "NOT (a LIKE b)"), ("a IN (1, 2, 3)", "(a = 1 OR a = 2) OR a = 3"),
                           ("a NOT BETWEEN 1 AND 2", "NOT (a >= 1 AND a <= 2)")]:
            self.assertEqual(printed(parse("SELECT " + one)), printed(parse("\n  select (" + other + ")")))
        self.assertEqual(printed(parse("SELECT a FROM t AS t ORDER BY a ASC NULLS LAST")),
                         printed(parse("SELECT a FROM t ORDER BY a")))
        self.assertEqual(printed(parse("SELECT a FROM t INNER JOIN u ON x OFFSET 0")),
                         printed(parse("SELECT a FROM t JOIN u ON x")))

    def test_trees_that_differ_are_printed_otherwise(self):
        for one, other in [("1 = b OR TRUE = b", "1 = b OR 1 = b"), ("'1'", "1"), ("a", "t.a"), ("a + (b + c)", "a + b + c"),
                           ("NULL", "'NULL'"), ("a OR (b OR c)", "a OR b OR c"), ("- 1", "1"), ("TRUE", "1"),
                           ("count(DISTINCT a)", "count(a)"), ("f(*)", "f()"), ("rank() OVER ()", "rank()"),
                           ("sum(a) OVER (ROWS BETWEEN 0 PRECEDING AND 1 FOLLOWING)",
                            "sum(a) OVER (ROWS BETWEEN 0 PRECEDING AND 2 FOLLOWING)")]:
            self.assertNotEqual(printed(parse("SELECT " + one)), printed(parse("SELECT " + other)))

    def test_what_is_nested_as_deep_as_may_be(self):
        for text in ["NOT a NOT IN (b = (c = d), " * 1 + "1)", "NOT (" * 5 + "a NOT IN (b)" + ")" * 5,
                     "a NOT IN (b = (c), " * 11 + "1" + ")" * 11, "a NOT IN (" * 28 + "a" + ")" * 28,
                     "a IN (" * 57 + "a" + ")" * 57, "a IN (x OR " * 27 + "a" + ")" * 27,
                     "a NOT IN (x = 1 OR x = 2 OR " * 10 + "a" + ")" * 10,
                     "(" * 11 + "a NOT BETWEEN 1 AND 2" + ") IS NOT TRUE" * 11, "- (" * 5 + "a + b" + ")" * 5,
                     "NOT (a OR " * 5 + "b" + ")" * 5, "CASE WHEN a IN (b OR c) THEN " * 11 + "1" + " END" * 11,
                     "(" * 11 + "a" + " = b)" * 11, "(" * 11 + "a" + " IS NOT NULL)" * 11,
                     "count(*) OVER (PARTITION BY a IN (b AND c), " * 11 + "a" + ")" * 11]:
            self.check("SELECT " + text)

    def test_short_texts_can_always_be_printed(self):
        for text in ["(" * 8 + "a" + " BETWEEN 1 AND 2)" * 7 + ")", "(" * 10 + "a" + " IN (1,2))" * 10,
                     "(" * 11 + "a" + " IN(1,2,3))" * 5 + ")" * 6, ",".join(["1"] * 70),
                     "a IN(1)or " * 13 + "a", ",".join(["not a=b"] * 17), "-" * 11 + "1", "'" + "''" * 70 + "'"]:
            text = "SELECT " + text
            self.assertLessEqual(len(text), 150)
            try:
                parse(text)
            except TooMuch:
                continue
            self.check(text)

    def test_long_texts(self):
        told = self.check("SELECT " + ",".join(["1"] * 1400))
        self.assertLessEqual(len(told), 3000)
        self.assertEqual(len(self.check("SELECT " + ",".join(["1"] * 1497))), 3000)
        self.check("SELECT " + ",".join(["a<b"] * 700))
        with self.assertRaises(TooMuch):
            printed(parse("SELECT " + ",".join(["not a=b"] * 370)))
        with self.assertRaises(TooMuch):
            printed(parse("SELECT * FROM " + ",".join(["t a"] * 740)))

    def test_random_queries(self):
        for seed in range(2500):
            text = generated.query(seed, 0.1 if seed % 2 else 0.0)
            try:
                parse(text)
            except PeristyleError:
                continue
            told = self.check(text)
            # Places count for nothing: the same things further apart are printed alike.
            rnd = random.Random(seed)
            spread = "".join([sign + (" " if sign in " (),=" and rnd.random() < 0.3 else "") for sign in text])
            if "'" not in text and len(spread) <= 3000:
                self.assertEqual(printed(parse(spread)), told)


if __name__ == "__main__":
    unittest.main()
