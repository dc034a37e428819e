import unittest

from entablature.errors import BadText
from entablature.names import RESERVED, is_name
from entablature.words import words

RESERVED_WORDS = """SELECT DISTINCT FROM WHERE GROUP BY HAVING ORDER LIMIT OFFSET AS JOIN INNER LEFT RIGHT FULL CROSS
ON UNION INTERSECT EXCEPT ALL VALUES WITH AND OR NOT IS NULL TRUE FALSE IN EXISTS BETWEEN LIKE CASE WHEN THEN ELSE END
ASC DESC NULLS FIRST LAST OVER PARTITION ROWS PRECEDING FOLLOWING UNBOUNDED CURRENT ROW""".split()


class Words(unittest.TestCase):

    def refused(self, text, at):
        with self.assertRaises(BadText, msg=text) as caught:
            words(text)
        self.assertEqual(caught.exception.at, at, text)

    def test_reserved_words(self):
        self.assertEqual(sorted(RESERVED), sorted([word.lower() for word in RESERVED_WORDS]))
        for word in RESERVED_WORDS:
            for told in (word, word.lower(), word.title()):
                self.assertEqual(words(told), [("word", told, 0)])
            self.assertFalse(is_name(word.lower()))

    def test_words(self):
        self.assertEqual(words("abc a_1 z"), [("word", "abc", 0), ("word", "a_1", 4), ("word", "z", 8)])
        self.assertEqual(words("x" * 20), [("word", "x" * 20, 0)])
        self.refused("a " + "x" * 21, 2)
        self.refused("a Bc", 2)
        self.refused("_a", 0)
        self.refused("a b_C", 2)
        self.refused("a S\n", 2)
        self.refused("SELECT_ED", 0)

    def test_numbers(self):
        self.assertEqual(words("0 007 " + "9" * 18), [("number", 0, 0), ("number", 7, 2), ("number", 10 ** 18 - 1, 6)])
        self.assertEqual(words("12ab"), [("number", 12, 0), ("word", "ab", 2)])
        self.assertEqual(words("1a2"), [("number", 1, 0), ("word", "a2", 1)])
        self.assertEqual([type(thing[1]) for thing in words("1 2")], [int, int])
        self.refused("a " + "1" * 19, 2)
        self.refused("0" * 19, 0)

    def test_texts(self):
        self.assertEqual(words("'ab'"), [("text", "ab", 0)])
        self.assertEqual(words("''"), [("text", "", 0)])
        self.assertEqual(words("''''"), [("text", "'", 0)])
        self.assertEqual(words("'a''b'c'd'"), [("text", "a'b", 0), ("word", "c", 6), ("text", "d", 7)])
        self.assertEqual(words("'a' 'b'"), [("text", "a", 0), ("text", "b", 4)])
        self.assertEqual(words("'~ \"\\'"), [("text", "~ \"\\", 0)])
        self.assertEqual(words("'" + "x" * 200 + "'"), [("text", "x" * 200, 0)])
        self.assertEqual(words("'" + "''" * 200 + "'"), [("text", "'" * 200, 0)])

    def test_wrong_texts(self):
        self.refused("a 'bc", 2)
        self.refused("a '", 2)
        self.refused("a 'b''", 2)
        self.refused("'a\nb'", 2)
        self.refused("'a\tb'", 2)
        self.refused("'a" + chr(37), 2)
        self.refused("'a" + chr(127) + "'", 2)
        self.refused(" '" + "x" * 201 + "'", 1)
        self.refused(" '" + "x" * 201, 1)
        self.refused(" '" + "x" * 200, 1)
        self.refused(" '" + "x" * 200 + "''", 1)
        self.refused(" '" + "x" * 200 + "\n'", 202)
        self.refused(" '" + "x" * 201 + "\n'", 1)
        self.refused("'" + "''" * 200 + "x'", 0)

    def test_marks(self):
        told = "( ) , . * + - / = <> < <= > >= ||".split()
        self.assertEqual([thing[1] for thing in words(" ".join(told))], told)
        self.assertEqual([thing[:2] for thing in words("<>=")], [("mark", "<>"), ("mark", "=")])
        self.assertEqual([thing[1] for thing in words("<=>")], ["<=", ">"])
        self.assertEqual([thing[1] for thing in words("a<-1||'x'--")], ["a", "<", "-", 1, "||", "x", "-", "-"])
        self.assertEqual([thing[2] for thing in words("a<-1||'x'--")], [0, 1, 2, 3, 4, 6, 9, 10])
        for sign in "|!\"#$&;:?@[]\\^`{}~" + chr(37):
            self.refused("a " + sign + " b", 2)
        self.refused("a |||", 4)

    def test_blanks(self):
        self.assertEqual(words(""), [])
        self.assertEqual(words(" \n "), [])
        self.assertEqual(words("\na \n\n b "), [("word", "a", 1), ("word", "b", 6)])
        self.refused("a\tb", 1)
        self.refused("\t", 0)
        self.refused("a\r", 1)

    def test_the_first_mistake_is_told(self):
        self.refused("a B 'x", 2)
        self.refused("'x B ! ", 0)
        self.refused("! B", 0)


if __name__ == "__main__":
    unittest.main()
