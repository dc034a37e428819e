"""The plays of splits: their runs, sessions and steps."""

import itertools
import random
import unittest

import plainweb
from entablature.played import runs_of, sessions_of, steps_of
from entablature.splits import split
from plainweb import FRESH

P0, P1, P2 = ("param", 0), ("param", 1), ("param", 2)
SKEW = (("skew", ("int", "int"), (("r", "t", P0), ("w", "t", P1))),)


def value(shapes, kind, number):
    """The value of a class, by the words of the document."""
    if kind == "bool":
        return False
    taken = {entry[2][1] for shape in shapes for entry in shape[2] if entry[0] != "a" and entry[2][0] == "value"}
    worths = itertools.count() if kind == "int" else ("v%d" % at for at in itertools.count())
    return next(itertools.islice((worth for worth in worths if worth not in taken), number, None))


class Played(unittest.TestCase):

    def test_a_play(self):
        told = split(SKEW, 0, False)
        self.assertEqual(runs_of(SKEW, 0, told), (("skew", (0, 1)), ("skew", (1, 0))))
        self.assertEqual(sessions_of(told), (0, 1))
        self.assertEqual(steps_of(told), (("begin", 0), ("run", 1), ("finish", 0)))

    def test_literals_among_the_first_values(self):
        shapes = SKEW + (("other", (), (("r", "t", ("value", 0)), ("r", "t", ("value", 2)), ("r", "u", ("value", "v0")),
                                        ("r", "u", ("value", "v2")), ("r", "t", ("value", -1)))),
                         ("p", ("text", "text", "text", "bool"), (("r", "u", P0), ("w", "u", P1))))
        self.assertEqual(runs_of(shapes, 0, split(SKEW, 0, False)), (("skew", (1, 3)), ("skew", (3, 1))))
        told = (((0, 0), (0, 1), (0, 2), (0, 3)), ((2, ((0, 1), (0, 0), FRESH, FRESH)),), ((0, 1), (0, 1)))
        self.assertEqual(runs_of(shapes, 2, told), (("p", ("v1", "v3", "v4", False)), ("p", ("v3", "v1", "v6", False))))

    def test_literals_in_signs(self):
        shapes = (("p", ("int", "int"), (("r", "t", P0), ("w", "t", P1), ("r", "t", ("value", 5)))),)
        told = (((1, 5), (0, 0)), ((0, ((0, 0), (1, 5))),), ((0, 1), (0, 1)))
        self.assertEqual(runs_of(shapes, 0, told), (("p", (5, 0)), ("p", (0, 5))))

    def test_fresh_values_are_numbered_link_by_link(self):
        shapes = (("p", ("int", "int", "bool"), (("r", "t", P0), ("w", "t", P1), ("w", "v", P0))),
                  ("q", ("int", "text", "int", "int"), (("w", "t", P0), ("r", "v", P2), ("w", "v", P2), ("r", "u", P1), ("r", "v", ("param", 3)))))
        choice = ((0, 0), (0, 1), (0, 2))
        links = ((1, ((0, 0), FRESH, FRESH, FRESH)), (1, (FRESH, FRESH, FRESH, FRESH)), (1, ((0, 1), FRESH, FRESH, FRESH)))
        # The first link's third parameter meets that of the second, and that the fourth of the third link.
        meets = ((0, 0), (2, 1), (2, 4), (1, 2))
        runs = runs_of(shapes, 0, (choice, links, meets))
        self.assertEqual(runs, (("p", (0, 1, False)), ("q", (0, "v3", 4, 5)), ("q", (6, "v7", 4, 8)), ("q", (1, "v9", 10, 4))))
        # What does not meet by its key has a value of its own.
        runs = runs_of(shapes, 0, (choice, links, ((0, 0), (-1, -1), (2, 4), (1, 2))))
        self.assertEqual(runs, (("p", (0, 1, False)), ("q", (0, "v3", 4, 5)), ("q", (6, "v7", 8, 9)), ("q", (1, "v10", 11, 8))))

    def test_bools_take_numbers(self):
        shapes = (("p", ("bool", "int", "int"), (("r", "t", P1), ("w", "t", P2))),)
        told = split(shapes, 0, False)
        self.assertEqual(told[0], ((0, 0), (0, 1), (0, 2)))
        self.assertEqual(runs_of(shapes, 0, told), (("p", (False, 1, 2)), ("p", (False, 2, 1))))

    def test_sessions(self):
        pair, bare = (0, 0), (-1, -1)
        links = ((0, ()),) * 4
        for meets, told in (((pair, pair, pair, pair, pair), (0, 1, 2, 3, 4)), ((pair, bare, pair, pair, pair), (0, 1, 1, 2, 3)),
                            ((pair, bare, bare, pair, pair), (0, 1, 1, 1, 2)), ((pair, bare, pair, bare, pair), (0, 1, 1, 2, 2))):
            self.assertEqual(sessions_of(((), links, meets)), told)
            self.assertEqual(steps_of(((), links, meets)), (("begin", 0), ("run", 1), ("run", 2), ("run", 3), ("run", 4), ("finish", 0)))

    def test_drawn_plays(self):
        rnd = random.Random(11)
        seen = 0
        for _ in range(300):
            shapes = plainweb.drawn(rnd)
            for place, strong in itertools.product(range(len(shapes)), (False, True)):
                told = split(shapes, place, strong)
                if told is None:
                    continue
                seen += 1
                choice, links, meets = told
                runs = runs_of(shapes, place, told)
                self.assertEqual([run[0] for run in runs], [shapes[place][0]] + [shapes[link[0]][0] for link in links])
                number = {}
                fresh = 1 + max([sign[1] for sign in choice if sign[0] == 0], default=-1)
                for k, (at, ways) in enumerate(links):
                    for i, sign in enumerate(ways):
                        if sign == FRESH:
                            number[(k, i)] = self.shared(shapes, told, k, i, number)
                            if number[(k, i)] is None:
                                number[(k, i)] = fresh
                                fresh += 1
                for k, (at, ways) in enumerate([(place, choice)] + list(links)):
                    due = []
                    for i, sign in enumerate(ways):
                        worth = sign[1] if sign[0] == 1 else None
                        if worth is None:
                            worth = value(shapes, shapes[at][1][i], number[(k - 1, i)] if sign == FRESH else sign[1])
                        due.append(worth)
                    self.assertEqual(repr(runs[k][1]), repr(tuple(due)))
        self.assertGreater(seen, 60)

    def shared(self, shapes, told, k, i, number):
        """The number of the fresh parameter of the link ahead that a fresh parameter meets, or None."""
        _, links, meets = told
        if k == 0 or meets[k] == (-1, -1):
            return None
        one, other = shapes[links[k - 1][0]][2][meets[k][0]], shapes[links[k][0]][2][meets[k][1]]
        if "a" in (one[0], other[0]) or other[2] != ("param", i) or one[2][0] != "param":
            return None
        return number.get((k - 1, one[2][1]))


if __name__ == "__main__":
    unittest.main()
