"""Sessions, and programs that only read."""

import unittest

from entablature.copies import Session, only_reads
from entablature.errors import Behind

P0 = ("param", 0)


class Sessions(unittest.TestCase):

    def test_tokens(self):
        session = Session()
        self.assertEqual(session.token, 0)
        session.check(0)
        session.saw(4)
        session.saw(2)
        self.assertEqual(session.token, 4)
        session.check(4)
        session.check(5)
        self.assertEqual(session.token, 4)
        for version in (0, 3):
            with self.assertRaises(Behind):
                session.check(version)

    def test_only_reads(self):
        read, ask = ("read", "t", P0), ("ask", "SELECT a FROM t")
        self.assertIs(only_reads(("p", ("int",), (read, ask))), True)
        for word in (("set", "t", P0, ((1, ("const", "int", 1)),)), ("put", "t", (P0,)), ("drop", "t", P0)):
            self.assertIs(only_reads(("p", ("int",), (read, word, ask))), False)


if __name__ == "__main__":
    unittest.main()
