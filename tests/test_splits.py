"""Splits, closings and the least allotment, and the judges of both, held against plain searches."""

import itertools
import random
import unittest

import plainweb
from entablature.splits import closing, is_kept, needed, split
from entablature.web import choices
from entablature.webjudge import judge_closing, judge_split
from plainweb import FRESH

P0, P1 = ("param", 0), ("param", 1)
ODD = (None, True, False, 0, 1, 2, -1, "", "v0", "t", (), (0, 0), (2, 0), (1, True), (False, 0), (0, True), ((),), (-1, -1))
BOUNDS = (-1, 0, 1, 2, 3)
# One program whose runs side by side are no serial history: it reads one row and writes another one.
SKEW = (("skew", ("int", "int"), (("r", "t", P0), ("w", "t", P1))),)


def deep(x, many):
    for _ in range(many):
        x = (x,)
    return x


class Plain(unittest.TestCase):

    def test_a_split_of_one_link(self):
        told = split(SKEW, 0, False)
        self.assertEqual(told, (((0, 0), (0, 1)), ((0, ((0, 1), (0, 0))),), ((0, 1), (0, 1))))
        self.assertTrue(judge_split(SKEW, 0, False, told))
        self.assertEqual((needed(SKEW, False), is_kept(SKEW, (True,), False), is_kept(SKEW, (False,), False)), ((True,), True, False))

    def test_one_row_alone_is_no_split(self):
        shapes = (("one", ("int",), (("r", "t", P0), ("w", "t", P0))),)
        self.assertIsNone(split(shapes, 0, False))
        self.assertIsNone(split(shapes, 0, True))
        self.assertEqual(needed(shapes, True), (False,))

    def test_by_several_links(self):
        """A program that reads a row, and writes another one that is read only behind several others."""
        shapes = [("p", ("int", "text"), (("r", "t", P0), ("w", "u", P1)))]
        for at in range(4):
            shapes.append(("q%d" % at, ("int", "int"), (("w", "abcd"[at - 1] if at else "t", P0), ("r", "abcd"[at], P1))))
        shapes.append(("last", ("int", "text"), (("w", "d", P0), ("r", "u", P1))))
        shapes = tuple(shapes)
        told = split(shapes, 0, False)
        many = plainweb.fewest(shapes, 0, False)
        self.assertGreater(many, 3)
        self.assertEqual((len(told[1]), told[1][0][0], told[1][-1][0]), (many, 1, 5))
        self.assertTrue(judge_split(shapes, 0, False, told))
        self.assertEqual(needed(shapes, False)[0], True)
        for most in range(1, many + 3):
            self.assertIs(judge_closing(shapes, 0, False, most, closing(shapes, 0, False, most)), most < many)
        self.assertFalse(judge_closing(shapes, 0, False, 0, closing(shapes, 0, False, 0)))
        # By sessions the first and the last one do.
        told = split(shapes, 0, True)
        self.assertEqual(([link[0] for link in told[1]], told[2][1]), ([1, 5], (-1, -1)))
        self.assertTrue(judge_split(shapes, 0, True, told))
        self.assertFalse(judge_split(shapes, 0, False, told))

    def test_links_that_write_an_object_are_not_sound(self):
        shapes = (("p", ("int", "int"), (("r", "t", P0), ("w", "t", P1))),
                  ("q", ("int", "int"), (("w", "t", P0), ("r", "t", P1), ("w", "t", P1))))
        told = split(shapes, 0, False)
        self.assertEqual(told[1][0][0], 0)
        bad = (told[0], ((1, ((0, 0), (0, 1))),), ((0, 0), (1, 1)))
        self.assertFalse(judge_split(shapes, 0, False, bad))

    def test_a_literal_that_is_an_object_bars_the_whole_program(self):
        shapes = (("p", ("int",), (("r", "t", P0), ("w", "t", ("value", 7)))),
                  ("q", ("int",), (("w", "t", ("value", 7)), ("w", "t", P0), ("r", "t", ("value", 7)))))
        self.assertIsNone(split(shapes, 0, False))
        self.assertIsNone(split(shapes, 0, True))

    def test_asks(self):
        shapes = (("p", ("int",), (("a", "t"), ("w", "t", P0))), ("q", (), (("a", "u"),)))
        told = split(shapes, 0, False)
        self.assertEqual(told, (((0, 0),), ((0, (FRESH,)),), ((0, 1), (0, 1))))
        self.assertEqual(needed(shapes, False), (True, False))

    def test_parameters_of_other_kinds_share_no_class(self):
        shapes = (("p", ("int", "text"), (("r", "t", P0), ("w", "u", P1))),
                  ("q", ("text", "int"), (("r", "u", P0), ("w", "t", P1))))
        told = split(shapes, 0, False)
        self.assertEqual(told, (((0, 0), (0, 1)), ((1, ((0, 1), (0, 0))),), ((0, 1), (0, 1))))
        for ways in (((0, 0), (0, 1)), ((0, 0), (0, 0)), ((0, 2), (0, 0))):
            self.assertFalse(judge_split(shapes, 0, False, (told[0], ((1, ways),), told[2])))


class Drawn(unittest.TestCase):

    def hold(self, rnd, shapes):
        """Holds everything about some shapes against the plain searches."""
        counts = {False: [], True: []}
        for place, strong in itertools.product(range(len(shapes)), (False, True)):
            self.assertEqual(list(choices(shapes, place)), plainweb.choices(shapes, place))
            told = split(shapes, place, strong)
            many = plainweb.fewest(shapes, place, strong)
            counts[strong].append(many)
            self.assertEqual(None if told is None else len(told[1]), many, (shapes, place, strong))
            if told is not None:
                self.assertTrue(judge_split(shapes, place, strong, told))
                self.assertTrue(plainweb.is_split(shapes, place, strong, told))
            for most in BOUNDS:
                made = closing(shapes, place, strong, most)
                self.assertEqual(made, plainweb.closing(shapes, place, strong, most), (shapes, place, strong, most))
                is_true = most == -1 or many is None or 0 < most < many
                self.assertIs(judge_closing(shapes, place, strong, most, made), is_true)
                for other in BOUNDS:
                    due = plainweb.is_closing(shapes, place, strong, other, made)
                    self.assertIs(judge_closing(shapes, place, strong, other, made), due)
        for strong in (False, True):
            least = tuple([many is not None for many in counts[strong]])
            self.assertEqual(needed(shapes, strong), least)
            for strict in itertools.product((False, True), repeat=len(shapes)):
                due = all([now or not must for now, must in zip(strict, least)])
                self.assertIs(is_kept(shapes, strict, strong), due)
        self.assertTrue(all([one or not other for one, other in zip(needed(shapes, True), needed(shapes, False))]))
        return counts

    def test_small_shapes(self):
        rnd = random.Random(5)
        found = {}
        for _ in range(220):
            counts = self.hold(rnd, plainweb.drawn(rnd, params=2, entries=rnd.choice((3, 5, 8))))
            for many in counts[False] + counts[True]:
                found[many] = found.get(many, 0) + 1
        self.assertGreater(min(found[None], found[1], found[2]), 20)

    def test_three_parameters(self):
        rnd = random.Random(6)
        for _ in range(20):
            self.hold(rnd, plainweb.drawn(rnd, entries=rnd.choice((4, 8)), worths=1))

    def test_many_shapes_go_quickly(self):
        rnd = random.Random(7)
        for _ in range(600):
            shapes = plainweb.drawn(rnd)
            for place in range(len(shapes)):
                for strong in (False, True):
                    told = split(shapes, place, strong)
                    made = closing(shapes, place, strong, 0)
                    self.assertIs(judge_closing(shapes, place, strong, 0, made), told is None)
                    if told is not None:
                        self.assertTrue(judge_split(shapes, place, strong, told))
                        self.assertEqual(len(told[1]) == 1, not judge_closing(shapes, place, strong, 1, closing(shapes, place, strong, 1)))


class Judges(unittest.TestCase):

    def test_no_split(self):
        told = split(SKEW, 0, False)
        for odd in ODD + (told[:2], told + ((),), list(told), deep(1, 400), deep((), 401), (told,), (told, told, told),
                          (told[0], (), ()), (told[0], (), ((0, 1),)), (told[0], told[1] * 2, told[2])):
            for strong in (False, True):
                self.assertIs(judge_split(SKEW, 0, strong, odd), False, odd)

    def test_turned_splits(self):
        rnd = random.Random(8)
        taken = 0
        for _ in range(300):
            shapes = plainweb.drawn(rnd, programs=3, params=2)
            for place, strong in itertools.product(range(len(shapes)), (False, True)):
                told = split(shapes, place, strong)
                if told is None:
                    continue
                for _ in range(30):
                    bad = plainweb.turned(rnd, told, ODD)
                    due = plainweb.is_split(shapes, place, strong, bad)
                    self.assertIs(judge_split(shapes, place, strong, bad), due, (shapes, place, strong, bad))
                    taken += due
        self.assertGreater(taken, 30)

    def test_truth_values_are_no_numbers(self):
        told = split(SKEW, 0, False)
        for bad in ((((False, 0), (0, 1)),) + told[1:], (((0, 0), (0, True)),) + told[1:],
                    (told[0], ((False, told[1][0][1]),), told[2]), (told[0], ((0, ((0, True), (0, 0))),), told[2]),
                    (told[0], told[1], ((False, 1), (0, 1))), (told[0], told[1], ((0, True), (0, 1)))):
            self.assertEqual(bad, told)
            self.assertIs(judge_split(SKEW, 0, False, bad), False)
        shapes = (("p", ("int",), (("r", "t", ("value", 1)), ("r", "t", P0))), ("q", ("int",), (("w", "t", P0),)))
        made = closing(shapes, 0, False, 0)
        self.assertTrue(judge_closing(shapes, 0, False, 0, made))
        for at, (choice, states) in enumerate(made):
            for n, (layer, (other, i, sign)) in enumerate(states):
                for state in ((True, (other, i, sign)), (layer, (bool(other), i, sign)), (layer, (other, False, sign)),
                              (layer, (other, i, (bool(sign[0]), sign[1]))), (layer, (other, i, (sign[0], bool(sign[1]))))):
                    bad = made[:at] + ((choice, states[:n] + (state,) + states[n + 1:]),) + made[at + 1:]
                    self.assertIs(judge_closing(shapes, 0, False, 0, bad), False)
            turned = tuple([(sign[0], bool(sign[1])) for sign in choice])
            self.assertIs(judge_closing(shapes, 0, False, 0, made[:at] + ((turned, states),) + made[at + 1:]), False)

    def test_no_closing(self):
        for most in BOUNDS:
            for odd in ODD + (deep(1, 400), deep((), 401), [], ((),) * len(choices(SKEW, 0)), ((None, ()),)):
                self.assertIs(judge_closing(SKEW, 0, False, most, odd), False)

    def test_turned_closings(self):
        rnd = random.Random(9)
        taken = 0
        for _ in range(120):
            shapes = plainweb.drawn(rnd, programs=3, params=2, entries=5)
            place, strong, most = rnd.randrange(len(shapes)), rnd.random() < 0.5, rnd.choice(BOUNDS)
            told = closing(shapes, place, strong, most)
            for _ in range(30):
                bad = plainweb.turned(rnd, told, ODD)
                found = judge_closing(shapes, place, strong, most, bad)
                due = self.is_form(bad) and plainweb.is_closing(shapes, place, strong, most, bad)
                self.assertIs(found, due, (shapes, place, strong, most, bad))
                taken += due
        self.assertGreater(taken, 100)

    def is_form(self, told):
        """Whether a value has the form of a closing, with numbers that are no truth values."""
        try:
            for choice, states in told:
                for layer, state in states:
                    if type(layer) is not int or type(state) is not tuple or [type(x) for x in state] != [int, int, tuple]:
                        return False
                    if len(state[2]) != 2 or type(state[2][0]) is not int or type(state[2][1]) not in (int, str):
                        return False
                if type(choice) is not tuple or "True" in repr(choice) or "False" in repr(choice) or type(states) is not tuple:
                    return False
                if any([type(pair) is not tuple for pair in states]):
                    return False
            return type(told) is tuple and all([type(pair) is tuple for pair in told])
        except (TypeError, ValueError):
            return False

    def test_what_closings_may_say_otherwise(self):
        shapes = (("p", ("int", "text"), (("r", "t", P0), ("w", "u", P1))), ("q", ("int",), (("w", "t", P0), ("r", "t", P0))))
        for most in (0, 1, 2, 3):
            told = closing(shapes, 0, False, most)
            self.assertTrue(judge_closing(shapes, 0, False, most, told))
            turned = tuple([(choice, states[::-1]) for choice, states in told])
            self.assertTrue(judge_closing(shapes, 0, False, most, turned))
            self.assertIs(judge_closing(shapes, 0, False, most, told[:-1]), False)
            self.assertIs(judge_closing(shapes, 0, False, most, told + told[-1:]), False)
            for at, (choice, states) in enumerate(told):
                for n in range(len(states)):
                    bad = told[:at] + ((choice, states[:n] + states[n + 1:]),) + told[at + 1:]
                    self.assertIs(judge_closing(shapes, 0, False, most, bad), False)
                    twice = told[:at] + ((choice, states + states[n:n + 1]),) + told[at + 1:]
                    self.assertIs(judge_closing(shapes, 0, False, most, twice), False)
                    high = told[:at] + ((choice, states[:n] + ((9, states[n][1]),) + states[n + 1:]),) + told[at + 1:]
                    self.assertIs(judge_closing(shapes, 0, False, most, high), most == 0)
        self.assertTrue(judge_closing(shapes, 0, False, -1, closing(shapes, 0, False, -1)))
        self.assertIs(judge_closing(shapes, 0, False, -1, closing(shapes, 0, False, 0)), False)


if __name__ == "__main__":
    unittest.main()
