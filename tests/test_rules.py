"""The steps: for each rule plans that it changes, plans that lack just one condition, and answers that stay."""

import time
import unittest

import plans
import second
from entablature.checker import takes, takes_all
from entablature.errors import TooMuch
from entablature.meaning import answer
from entablature.piece import piece_of, plan_with
from entablature.plan import kinds, nodes
from entablature.rules import found, instances, rules_for
from entablature.running import simple
from short import NO, NULL, YES, col, cols, eq, num, op

SCHEMAS = plans.SCHEMAS
T, U, V, W = ("scan", "t"), ("scan", "u"), ("scan", "v"), ("scan", "w")
NAMES = ("split", "merge", "true", "select", "inline", "same", "down", "downright", "on", "off", "swap", "swapouter",
         "turn", "turnback", "strict", "unite", "once", "oncewhere", "groupwhere", "prune", "drop", "exists",
         "notexists", "within", "semi", "fold")


def both(a, b):
    return op("and", a, b)


def out(at, far=1):
    return ("outer", far, at)


def where(cond, plan):
    return ("where", cond, plan)


def select(exprs, plan):
    return ("select", tuple(exprs), plan)


def join(side, cond, left, right):
    return ("join", side, cond, left, right)


def sort(plan):
    return ("top", (), None, 0, plan)


DIVIDED = op("div", num(1), col(0))
BAD = op("eq", DIVIDED, num(1))
BAD_RIGHT = op("eq", op("div", num(1), col(3)), num(1))
LOW = op("lt", col(0), num(2))
HIGH = op("gt", col(0), num(-1))
FAULTY = select((DIVIDED, col(0)), T)
FAILING = where(BAD, U)


class Steps(unittest.TestCase):

    def steps(self, rule, plan):
        kinds(plan, SCHEMAS)
        told = []
        for name, path, after in found(plan, SCHEMAS):
            self.assertIn(name, NAMES)
            if name == rule and path == ():
                told.append(after)
        return told

    def check_kept(self, plan, after, why):
        for seed in range(12):
            tables = plans.tables(f"{why} {seed}", 0 if seed == 0 else 4)
            self.assertEqual(answer(plan, tables), answer(after, tables), (why, plan, after))

    def one(self, rule, plan, after):
        """The rule makes just this of the plan, and it keeps the answer."""
        self.assertEqual(self.steps(rule, plan), [after])
        self.assertTrue(takes(plan, (rule, (), after), SCHEMAS))
        self.assertFalse(takes(plan, (rule, (0,), after), SCHEMAS))
        self.check_kept(plan, after, rule)
        for other in NAMES:
            if other != rule and after not in self.steps(other, plan):
                self.assertFalse(takes(plan, (other, (), after), SCHEMAS), other)
        outside = ("distinct", select([num(1)], plan))
        behind = ("distinct", select([num(1)], after))
        self.assertIn((rule, (0, 0), behind), found(outside, SCHEMAS))
        self.assertTrue(takes(outside, (rule, (0, 0), behind), SCHEMAS))

    def none(self, rule, *told):
        for plan in told:
            self.assertEqual(self.steps(rule, plan), [], plan)


class WhereSteps(Steps):

    def test_split(self):
        self.one("split", where(both(LOW, BAD), T), where(BAD, where(LOW, T)))
        self.one("split", where(both(NULL, ("exists", FAILING)), T), where(("exists", FAILING), where(NULL, T)))
        self.none("split", where(both(BAD, LOW), T), where(op("or", LOW, LOW), T), where(LOW, T),
                  where(both(op("isnull", col(0)), LOW), FAULTY), where(both(("exists", U), LOW), T))

    def test_merge(self):
        self.one("merge", where(BAD, where(LOW, T)), where(both(LOW, BAD), T))
        self.none("merge", where(LOW, where(BAD, T)), where(LOW, T), where(LOW, where(("exists", U), T)))

    def test_true(self):
        self.one("true", where(YES, T), T)
        self.one("true", where(YES, FAILING), FAILING)
        self.none("true", where(YES, sort(T)), where(YES, select(cols(0), sort(T))), where(NO, T), where(NULL, T),
                  where(both(YES, YES), T))
        self.assertIn(("true", (), ("distinct", sort(T))), found(where(YES, ("distinct", sort(T))), SCHEMAS))

    def test_select(self):
        told = (col(1), DIVIDED)
        cond = op("lt", col(1), op("size", col(0)))
        self.one("select", where(cond, select(told, T)), select(told, where(op("lt", DIVIDED, op("size", col(1))), T)))
        inner = where(op("eq", col(0), out(1)), U)
        self.one("select", where(("exists", inner), select((col(1), op("neg", col(0))), sort(T))),
                 select((col(1), op("neg", col(0))),
                        where(("exists", where(op("eq", col(0), op("neg", out(0))), U)), sort(T))))
        self.none("select", where(LOW, T), where(LOW, ("distinct", select(cols(0), T))))

    def test_down(self):
        for side in ("inner", "left", "semi", "anti"):
            self.one("down", where(LOW, join(side, eq(0, 3), T, U)), join(side, eq(0, 3), where(LOW, T), U))
            self.none("down", where(BAD, join(side, eq(0, 3), T, U)), where(LOW, join(side, eq(0, 3), T, FAILING)),
                      where(LOW, join(side, BAD, T, U)))
        self.one("down", where(NULL, join("inner", YES, T, U)), join("inner", YES, where(NULL, T), U))
        failing = join("inner", YES, FAILING, U)
        self.one("down", where(LOW, failing), join("inner", YES, where(LOW, FAILING), U))
        for side in ("right", "full"):
            self.none("down", where(LOW, join(side, eq(0, 3), T, U)))
        self.none("down", where(eq(0, 3), join("inner", YES, T, U)), where(eq(3, 4), join("inner", YES, T, U)),
                  where(both(LOW, ("exists", U)), join("inner", YES, T, U)))

    def test_downright(self):
        low = op("lt", col(3), num(2))
        for side in ("inner", "right"):
            self.one("downright", where(low, join(side, eq(0, 3), T, U)), join(side, eq(0, 3), T, where(LOW, U)))
            self.none("downright", where(BAD_RIGHT, join(side, eq(0, 3), T, U)), where(low, join(side, BAD, T, U)),
                      where(low, join(side, YES, where(BAD, T), U)))
        self.one("downright", where(NULL, join("inner", YES, T, U)), join("inner", YES, T, where(NULL, U)))
        for side in ("left", "full"):
            self.none("downright", where(low, join(side, eq(0, 3), T, U)))
        self.none("downright", where(eq(0, 3), join("inner", YES, T, U)), where(LOW, join("inner", YES, T, U)),
                  where(LOW, join("semi", YES, T, U)))

    def test_on(self):
        for cond in (LOW, BAD, ("exists", where(op("eq", col(0), out(3)), U))):
            self.one("on", where(cond, join("inner", eq(0, 3), T, U)), join("inner", both(eq(0, 3), cond), T, U))
        self.none("on", where(LOW, join("inner", BAD, T, U)), where(LOW, join("left", eq(0, 3), T, U)),
                  where(LOW, join("semi", eq(0, 3), T, U)), where(LOW, join("inner", ("exists", U), T, U)))

    def test_strict(self):
        conds = (op("lt", col(3), num(1)), both(BAD, eq(3, 0)), both(eq(4, 0), YES), op("or", eq(3, 0), eq(4, 0)),
                 op("not", op("eq", op("neg", col(3)), DIVIDED)), op("eq", op("add", col(3), col(4)), col(0)))
        for cond in conds:
            self.one("strict", where(cond, join("left", eq(0, 3), T, U)), where(cond, join("inner", eq(0, 3), T, U)))
        self.one("strict", where(col(3), join("left", YES, U, select((num(1), op("isnull", col(0))), T))),
                 where(col(3), join("inner", YES, U, select((num(1), op("isnull", col(0))), T))))
        for cond in (LOW, op("isnull", col(3)), op("same", col(3), col(4)), op("or", eq(3, 0), LOW), YES, NULL,
                     op("not", both(eq(3, 0), YES)), op("eq", op("coalesce", col(3), num(1)), num(1))):
            self.none("strict", where(cond, join("left", eq(0, 3), T, U)))
        self.none("strict", where(eq(3, 0), join("left", BAD, T, U)), where(eq(3, 0), join("right", eq(0, 3), T, U)),
                  where(eq(3, 0), join("full", eq(0, 3), T, U)))

    def test_unite(self):
        self.one("unite", where(LOW, ("union", U, FAILING)), ("union", where(LOW, U), where(LOW, FAILING)))
        self.one("unite", where(BAD, ("union", U, U)), ("union", where(BAD, U), where(BAD, U)))
        cond = ("exists", where(op("eq", col(0), out(1)), U))
        self.one("unite", where(cond, ("union", U, U)), ("union", where(cond, U), where(cond, U)))
        self.none("unite", where(BAD, ("union", U, FAILING)), where(BAD, ("union", FAILING, U)),
                  where(LOW, ("except", U, U)), where(cond, ("union", FAILING, U)))

    def test_oncewhere(self):
        for cond in (LOW, BAD, ("exists", where(op("eq", col(0), out(1)), U))):
            self.one("oncewhere", where(cond, ("distinct", U)), ("distinct", where(cond, U)))
        self.one("oncewhere", where(LOW, ("distinct", FAILING)), ("distinct", where(LOW, FAILING)))
        self.none("oncewhere", where(LOW, ("distinct", FAULTY)), where(LOW, U))

    def test_groupwhere(self):
        aggs = (("sum", False, col(0)), ("rows", False, None))
        keys = (col(1), op("size", col(1)))
        plan = ("group", keys, aggs, T)
        cond = op("lt", col(1), op("size", op("upper", col(0))))
        put = op("lt", op("size", col(1)), op("size", op("upper", col(1))))
        self.one("groupwhere", where(cond, plan), ("group", keys, aggs, where(put, T)))
        self.one("groupwhere", where(NO, plan), ("group", keys, aggs, where(NO, T)))
        faulty = ("group", (col(1),), (("sum", False, DIVIDED),), T)
        self.one("groupwhere", where(op("isnull", col(0)), faulty),
                 ("group", (col(1),), (("sum", False, DIVIDED),), where(op("isnull", col(1)), T)))
        self.none("groupwhere", where(op("lt", col(2), num(1)), plan), where(YES, ("group", (), aggs, T)),
                  where(op("isnull", col(0)), ("group", (DIVIDED,), (), T)),
                  where(op("lt", DIVIDED, num(1)), ("group", (col(0),), (), T)),
                  where(("exists", where(op("eq", col(0), out(0)), U)), ("group", (col(0),), (), T)))

    def test_exists(self):
        cond = op("eq", col(0), out(0))
        for word, side in (("exists", "semi"), ("notexists", "anti")):
            ask = lambda plan: ("exists", plan) if word == "exists" else op("not", ("exists", plan))
            self.one(word, where(ask(where(cond, U)), T), join(side, op("eq", col(3), col(0)), T, U))
            self.one(word, where(ask(U), T), join(side, YES, T, U))
            low = both(op("lt", out(0), col(1)), op("isnull", out(2)))
            self.one(word, where(ask(where(low, sort(U))), T),
                     join(side, both(op("lt", col(0), col(4)), op("isnull", col(2))), T, sort(U)))
            inner = where(("exists", where(op("eq", col(0), out(0)), T)), U)
            self.one(word, where(ask(where(YES, inner)), T), join(side, YES, T, inner))
            self.none(word, where(ask(where(cond, FAILING)), T), where(ask(where(cond, U)), where(BAD, T)),
                      where(ask(where(op("eq", op("add", col(0), num(1)), out(0)), U)), T),
                      where(ask(where(op("eq", col(0), out(0)), U)), FAULTY),
                      where(ask(where(YES, where(cond, U))), T), where(ask(where(("exists", U), U)), T),
                      where(ask(select([out(0)], U)), T), where(both(ask(U), YES), T), where(LOW, T))
        deep = where(("exists", where(("exists", where(op("eq", col(0), out(0, 2)), U)), V)), T)
        self.none("exists", deep)

    def test_exists_over_outers_further_out(self):
        inside = where(("exists", where(op("eq", out(0, 2), col(0)), U)), T)
        plan = select([("exists", inside)], U)
        self.assertEqual([step for step in found(plan, SCHEMAS) if step[1] != ()], [])

    def test_within(self):
        ask = lambda expr, plan: where(("in", expr, plan), T)
        cond = op("lt", out(0), col(1))
        equal = op("eq", op("neg", col(0)), col(3))
        self.one("within", ask(op("neg", col(0)), select(cols(0), where(cond, U))),
                 join("semi", both(op("lt", col(0), col(4)), equal), T, U))
        self.one("within", ask(col(0), select([op("neg", col(1))], U)),
                 join("semi", both(YES, op("eq", col(0), op("neg", col(4)))), T, U))
        self.none("within", ask(DIVIDED, select(cols(0), U)), ask(col(0), select([DIVIDED], U)), ask(col(0), select(
            [out(0)], U)), ask(col(0), select([("scalar", select(cols(0), U))], U)), ask(col(0), select(cols(0), FAILING)),
            ask(col(0), select(cols(1), where(BAD, U))), ask(col(0), ("distinct", select(cols(0), U))),
            where(("in", col(0), select(cols(0), U)), FAILING), where(op("not", ("in", col(0), select(cols(0), U))), T),
            ask(col(0), select(cols(0), FAULTY)), ask(col(0), select(cols(0), where(("exists", U), U))),
            ask(col(0), select(cols(0), where(op("eq", op("div", out(0), num(1)), num(1)), U))))


class JoinSteps(Steps):

    def test_off(self):
        for cond in (LOW, BAD):
            self.one("off", join("inner", both(eq(0, 3), cond), T, U), where(cond, join("inner", eq(0, 3), T, U)))
        self.none("off", join("inner", both(BAD, LOW), T, U), join("left", both(LOW, LOW), T, U), join("inner", LOW, T, U))

    def test_swap(self):
        cond = both(eq(0, 3), BAD_RIGHT)
        turned = both(eq(2, 0), op("eq", op("div", num(1), col(0)), num(1)))
        self.one("swap", join("inner", cond, T, U), select(cols(2, 3, 4, 0, 1), join("inner", turned, U, T)))
        inner = ("exists", where(op("eq", col(0), out(3)), U))
        self.one("swap", join("inner", inner, T, U),
                 select(cols(2, 3, 4, 0, 1), join("inner", ("exists", where(op("eq", col(0), out(0)), U)), U, T)))
        self.none("swap", join("left", YES, T, U), join("full", YES, T, U), join("semi", YES, T, U))

    def test_swapouter(self):
        for side, other in (("left", "right"), ("right", "left")):
            self.one("swapouter", join(side, eq(0, 3), T, FAULTY),
                     select(cols(2, 3, 4, 0, 1), join(other, eq(2, 0), FAULTY, T)))
        self.none("swapouter", join("inner", YES, T, U), join("full", YES, T, U), join("anti", YES, T, U))

    def test_turn(self):
        plan = join("inner", eq(3, 5), join("inner", eq(0, 3), T, U), W)
        turned = join("inner", eq(0, 3), T, join("inner", eq(0, 2), U, W))
        self.one("turn", plan, turned)
        self.one("turnback", turned, plan)
        middle = join("inner", eq(3, 5), join("inner", eq(0, 3), T, FAILING), W)
        self.one("turn", middle, join("inner", eq(0, 3), T, join("inner", eq(0, 2), FAILING, W)))
        first = where(BAD, T)
        last = where(BAD, W)
        for outer, inner, one, two, three in (
                (eq(0, 5), eq(0, 3), T, U, W), (eq(3, 5), BAD, T, U, W), (eq(3, 5), eq(0, 3), first, U, W),
                (eq(3, 5), eq(0, 3), T, U, last), (BAD_RIGHT, eq(0, 3), T, U, W)):
            self.none("turn", join("inner", outer, join("inner", inner, one, two), three))
        for outer, inner, one, two, three in (
                (eq(0, 5), eq(0, 2), T, U, W), (BAD, eq(0, 2), T, U, W), (eq(0, 3), BAD, T, U, W),
                (eq(0, 3), eq(0, 2), first, U, W), (eq(0, 3), eq(0, 2), T, U, last)):
            self.none("turnback", join("inner", outer, one, join("inner", inner, two, three)))
        for plan in (join("left", eq(3, 5), join("inner", eq(0, 3), T, U), W),
                     join("inner", eq(3, 5), join("left", eq(0, 3), T, U), W)):
            self.none("turn", plan)

    def test_semi(self):
        cond = both(LOW, eq(4, 0))
        self.one("semi", join("semi", cond, T, U), select(cols(0, 1, 2), join("inner", cond, T, U)))
        self.one("semi", join("semi", both(eq(2, 0), eq(1, 3)), U, W),
                 select(cols(0, 1), join("inner", both(eq(2, 0), eq(1, 3)), U, W)))
        one = ("group", (), (("rows", False, None),), W)
        self.one("semi", join("semi", LOW, T, one), select(cols(0, 1, 2), join("inner", LOW, T, one)))
        self.none("semi", join("semi", eq(0, 3), T, U), join("semi", both(eq(0, 4), BAD), T, U),
                  join("anti", eq(0, 4), T, U), join("semi", eq(2, 0), U, W), join("semi", op("or", NO, eq(0, 4)), T, U))

    def test_semi_too_wide(self):
        wide = T
        for _ in range(3):
            wide = join("inner", YES, wide, wide) if wide == T else join("inner", YES, wide, ("scan", "t"))
        for _ in range(3):
            wide = join("inner", YES, wide, T)
        kinds(join("semi", eq(0, 22), wide, U), SCHEMAS)
        self.none("semi", join("semi", eq(0, 22), join("inner", YES, wide, V), U))
        self.none("semi", join("semi", eq(0, 24), join("inner", YES, wide, T), U))


class SelectSteps(Steps):

    def test_inline(self):
        self.one("inline", select([op("neg", col(1)), col(1)], select([col(1), DIVIDED], T)),
                 select([op("neg", DIVIDED), DIVIDED], T))
        self.one("inline", select(cols(0), select(cols(1), sort(T))), select(cols(1), sort(T)))
        self.none("inline", select(cols(0), T), select(cols(0), ("distinct", select(cols(1), T))))
        inner = where(op("eq", col(0), out(0)), U)
        self.one("inline", select([("exists", inner)], select([op("neg", col(0))], T)),
                 select([("exists", where(op("eq", col(0), op("neg", out(0))), U))], T))

    def test_inline_too_large(self):
        told = op("least", col(0), col(0))
        for _ in range(8):
            told = op("least", told, told)
        one = col(0)
        for _ in range(3):
            one = op("least", one, one)
        self.none("inline", select([told], select([one], T)))
        self.assertEqual(len(self.steps("inline", select([one], select([one], T)))), 1)

    def test_same(self):
        self.one("same", select(cols(0, 1, 2), T), T)
        self.one("same", select(cols(0, 1, 2), sort(T)), sort(T))
        self.none("same", select(cols(0, 1), T), select(cols(0, 2, 1), T), select(cols(0, 1, 2, 2), T), select((), T))
        self.one("same", select((), ("rows", (), ((), ()))), ("rows", (), ((), ())))

    def test_prune_of_a_join(self):
        plan = select(cols(3), join("inner", eq(0, 4), T, U))
        self.one("prune", plan, select(cols(1), join("inner", eq(0, 2), select(cols(0), T), U)))
        both_sides = self.steps("prune", select(cols(1), join("full", YES, T, U)))
        self.assertEqual(both_sides, [select(cols(0), join("full", YES, select(cols(1), T), U)),
                                      select(cols(1), join("full", YES, T, select((), U)))])
        for after in both_sides:
            self.check_kept(select(cols(1), join("full", YES, T, U)), after, "prune")
        for side in ("semi", "anti"):
            told = self.steps("prune", select(cols(2), join(side, eq(0, 3), T, U)))
            self.assertIn(select(cols(1), join(side, eq(0, 2), select(cols(0, 2), T), U)), told)
            for after in told:
                self.check_kept(select(cols(2), join(side, eq(0, 3), T, U)), after, "prune")
        inner = ("exists", where(op("eq", col(1), out(4)), U))
        told = self.steps("prune", select(cols(0), join("inner", inner, T, U)))
        self.assertIn(select(cols(0), join("inner", ("exists", where(op("eq", col(1), out(3)), U)), T,
                                           select(cols(1), U))), told)
        self.none("prune", select(cols(1, 2), join("inner", both(eq(0, 3), eq(0, 4)), T, U)), select(cols(0), T),
                  select(cols(0), ("distinct", T)), select(cols(0), sort(T)))

    def test_prune_of_others(self):
        safe_fun = ("rank", None, (col(1),), ((col(0), False, False),), None)
        bad_fun = ("rank", None, (DIVIDED,), (), None)
        bad_order = ("place", None, (), ((DIVIDED, False, False),), None)
        arg_fun = ("sum", DIVIDED, (), (), None)
        self.one("prune", select(cols(0, 4), ("window", (safe_fun, bad_fun, arg_fun), T)),
                 select(cols(0, 3), ("window", (bad_fun,), T)))
        self.one("prune", select(cols(0), ("window", (safe_fun, arg_fun), T)), select(cols(0), ("window", (), T)))
        self.none("prune", select(cols(0), ("window", (bad_fun, bad_order), T)), select(cols(3), ("window", (safe_fun,), T)),
                  select(cols(0), ("window", (), T)))
        aggs = (("sum", False, col(0)), ("rows", False, None), ("max", True, DIVIDED))
        self.one("prune", select(cols(2), ("group", (col(1),), aggs, T)), select(cols(1), ("group", (col(1),), aggs[1:2], T)))
        self.one("prune", select((), ("group", (BAD,), aggs, T)), select((), ("group", (BAD,), (), T)))
        self.none("prune", select(cols(1, 2, 3), ("group", (col(1),), aggs, T)), select((), ("group", (col(1),), (), T)))
        self.one("prune", select(cols(2, 0), select([col(0), DIVIDED, col(2)], sort(T))),
                 select(cols(1, 0), select(cols(0, 2), sort(T))))
        self.none("prune", select(cols(0, 1), select([col(0), DIVIDED], T)))

    def test_drop(self):
        self.one("drop", select([col(2), DIVIDED], join("left", both(eq(4, 0), LOW), T, U)), select([col(2), DIVIDED], T))
        self.one("drop", select(cols(0), join("left", eq(0, 4), where(BAD, T), U)), select(cols(0), where(BAD, T)))
        one = ("group", (), (), W)
        self.one("drop", select(cols(0), join("left", NO, T, one)), select(cols(0), T))
        self.none("drop", select(cols(0, 3), join("left", eq(0, 4), T, U)), select(cols(0), join("left", eq(0, 3), T, U)),
                  select(cols(0), join("left", both(eq(0, 4), BAD), T, U)), select(cols(0), join("left", eq(0, 4), T, FAILING)),
                  select(cols(0), join("left", eq(0, 4), sort(T), U)), select(cols(0), join("inner", eq(0, 4), T, U)),
                  select([("exists", where(op("eq", col(0), out(3)), U))], join("left", eq(0, 4), T, U)),
                  select(cols(0), join("left", op("or", eq(0, 4), NO), T, U)))

    def test_once(self):
        self.one("once", ("distinct", T), T)
        self.one("once", ("distinct", where(BAD, T)), where(BAD, T))
        self.one("once", ("distinct", ("distinct", V)), ("distinct", V))
        self.none("once", ("distinct", V), ("distinct", sort(T)), ("distinct", select(cols(0), sort(T))),
                  ("distinct", select(cols(1), T)), ("distinct", select([col(0), DIVIDED], T)))


class Folding(Steps):

    def fold(self, expr, *told):
        plan = where(expr, T)
        self.assertEqual(sorted(self.steps("fold", plan), key=repr), sorted([where(one, T) for one in told], key=repr))
        for after in self.steps("fold", plan):
            self.assertTrue(takes(plan, ("fold", (), after), SCHEMAS))
            self.check_kept(plan, after, "fold")

    def test_fold(self):
        self.fold(both(YES, BAD), BAD)
        self.fold(both(BAD, YES), BAD)
        self.fold(op("or", NO, BAD), BAD)
        self.fold(op("or", BAD, NO), BAD)
        self.fold(both(NO, BAD), NO)
        self.fold(both(BAD, NO), NO)
        self.fold(op("or", YES, BAD), YES)
        self.fold(op("or", BAD, YES), YES)
        self.fold(both(YES, NULL), NULL)
        self.fold(both(NULL, BAD))
        self.fold(op("or", NULL, BAD))
        self.fold(op("not", op("not", BAD)), BAD)
        self.fold(op("not", YES), NO)
        self.fold(op("not", BAD))
        self.fold(op("lt", op("add", num(1), num(2)), col(0)), op("lt", num(3), col(0)))
        self.fold(op("lt", op("div", num(1), num(0)), col(0)))
        self.fold(op("isnull", ("const", "text", None)), YES)
        self.fold(op("eq", col(0), op("neg", ("const", "int", None))), op("eq", col(0), ("const", "int", None)))
        self.fold(("case", ((YES, BAD), (NO, YES)), NO), BAD)
        self.fold(("case", ((NO, BAD), (BAD, YES)), NO), ("case", ((BAD, YES),), NO))
        self.fold(("case", ((NULL, BAD),), LOW), LOW)
        self.fold(("case", ((BAD, YES), (YES, NO)), LOW))

    def test_places(self):
        inner = both(YES, LOW)
        self.fold(both(inner, inner), both(LOW, inner), both(inner, LOW))
        self.fold(("case", ((inner, inner),), inner), ("case", ((LOW, inner),), inner), ("case", ((inner, LOW),), inner),
                  ("case", ((inner, inner),), LOW))
        plan = select(cols(0), where(inner, U))
        self.fold(("in", op("neg", num(2)), plan), ("in", num(-2), plan))
        self.fold(("exists", plan))
        told = select([col(0), op("neg", num(1)), op("neg", num(2))], T)
        self.assertEqual(sorted(self.steps("fold", told), key=repr), sorted(
            [select([col(0), num(-1), op("neg", num(2))], T), select([col(0), op("neg", num(1)), num(-2)], T)], key=repr))
        self.none("fold", join("inner", inner, T, U), ("group", (op("neg", num(1)),), (), T))


class Found(unittest.TestCase):

    def test_found_tells_just_the_steps_of_a_second_reading(self):
        for seed in range(1600):
            plan = plans.plan(seed) if seed % 3 == 0 else plans.bait(seed)
            self.assertEqual(set(found(plan, SCHEMAS)), second.all_steps(plan, SCHEMAS), (seed, plan))


class Checker(unittest.TestCase):

    def test_steps_are_taken_and_keep_the_answer(self):
        for seed in range(700):
            plan = plans.plan(seed) if seed % 2 else plans.bait(seed)
            tables = plans.tables(seed)
            told = answer(plan, tables)
            for step in found(plan, SCHEMAS):
                kinds(step[2], SCHEMAS)
                self.assertTrue(takes(plan, step, SCHEMAS), (seed, step[0], step[1]))
                self.assertEqual(answer(step[2], tables), told, (seed, step[0], step[1]))

    def test_wrong_steps_keep_the_answer_or_are_not_taken(self):
        for seed in range(300):
            plan = plans.bait(seed)
            tables = [plans.tables(f"{seed} {at}") for at in range(3)]
            told = [answer(plan, part) for part in tables]
            steps = found(plan, SCHEMAS)
            for rule, path, after in steps[:6]:
                others = [(name, path, after) for name in NAMES]
                others += [(rule, (), after), (rule, path + (0,), after), (rule, (1,), after), (rule, (0,), after)]
                for step in others:
                    if takes(plan, step, SCHEMAS):
                        self.assertEqual([answer(after, part) for part in tables], told, (seed, step))
                for name in ("", "Split", "turn back", "nothing", "split "):
                    self.assertFalse(takes(plan, (name, path, after), SCHEMAS))
                for far in ((2,), (-1,), (0, 0, 0, 0, 0, 0, 0, 0), path + (7,)):
                    self.assertFalse(takes(plan, (rule, far, after), SCHEMAS))

    def test_turned_parts_are_not_taken(self):
        plan = where(both(LOW, HIGH), T)
        after = where(HIGH, where(LOW, T))
        self.assertTrue(takes(plan, ("split", (), after), SCHEMAS))
        for wrong in (where(LOW, where(LOW, T)), where(HIGH, where(LOW, W)), where(HIGH, T), plan, T,
                      where(HIGH, where(op("le", col(0), num(2)), T))):
            self.assertFalse(takes(plan, ("split", (), wrong), SCHEMAS), wrong)

    def test_one_part_turned_on_drawn_plans(self):
        for seed in range(300):
            plan = plans.bait(seed)
            for step in found(plan, SCHEMAS)[:4]:
                for other in plans.turned(step[2], seed):
                    if other != step[2] and takes(plan, (step[0], step[1], other), SCHEMAS):
                        for at in range(6):
                            tables = plans.tables(f"{seed} {at}")
                            self.assertEqual(answer(other, tables), answer(plan, tables), (seed, step, other))

    def test_within_without_a_condition_may_leave_out_the_true(self):
        plan = where(("in", col(0), select(cols(0), U)), T)
        self.assertTrue(takes(plan, ("within", (), join("semi", op("eq", col(0), col(3)), T, U)), SCHEMAS))

    def test_takes_all(self):
        plan = where(both(LOW, HIGH), join("inner", YES, T, U))
        steps = []
        for rule in ("split", "down", "down", "merge"):
            step = [told for told in found(steps[-1][2] if steps else plan, SCHEMAS) if told[0] == rule]
            if step:
                steps.append(step[0])
        self.assertGreater(len(steps), 2)
        self.assertTrue(takes_all(plan, steps, SCHEMAS))
        self.assertTrue(takes_all(plan, [], SCHEMAS))
        self.assertFalse(takes_all(plan, steps[1:], SCHEMAS))
        self.assertFalse(takes_all(plan, steps[:1] + steps[2:], SCHEMAS))

    def test_five_hundred_steps(self):
        cond = op("not", YES)
        for _ in range(9):
            cond = both(cond, cond)
        began = time.time()
        for plan in (where(cond, T), ("distinct", select([cond], T))):
            kinds(plan, SCHEMAS)
            told = found(plan, SCHEMAS)
            self.assertEqual(len(told), 500)
            self.assertTrue(all([takes(plan, step, SCHEMAS) for step in told[::50]]))
        self.assertLess(len(found(where(cond[2][0], T), SCHEMAS)), 500)
        self.assertLess(time.time() - began, 10)

    def test_bounds_of_steps(self):
        deep = T
        for _ in range(56):
            deep = ("distinct", deep)
        deep = where(both(LOW, LOW), deep)
        kinds(deep, SCHEMAS)
        told = found(deep, SCHEMAS)
        for step in told:
            kinds(step[2], SCHEMAS)
        deeper = ("distinct", deep)
        kinds(deeper, SCHEMAS)
        for step in found(deeper, SCHEMAS):
            kinds(step[2], SCHEMAS)

    def test_steps_at_the_bounds_are_told_just_if_they_lead_to_right_plans(self):
        refused = 0
        for seed in range(120):
            plan = plans.bait(seed)
            forms = {schema[0]: schema for schema in SCHEMAS}
            while piece_of(plan, forms).deep < 58 + seed % 3:
                plan = ("distinct", plan)
            self.assertEqual(piece_of(plan, forms).many, nodes(plan))
            told = [(rule, path) for rule, path, _ in found(plan, SCHEMAS)]
            chain = [piece_of(plan, forms)]
            path = ()
            while chain[-1].inputs:
                for rule in rules_for(chain[-1]):
                    for piece in instances(rule, chain[-1]):
                        try:
                            kinds(plan_with(chain, path, piece.plan), SCHEMAS)
                            self.assertIn((rule, path), told)
                        except TooMuch:
                            refused += 1
                chain.append(chain[-1].inputs[0])
                path += (0,)
        self.assertGreater(refused, 10)

    def test_what_is_told_is_new(self):
        plan = where(both(LOW, HIGH), T)
        found(plan, SCHEMAS).clear()
        self.assertGreater(len(found(plan, SCHEMAS)), 0)

    def test_many_plans_are_done_soon(self):
        drawn = [plans.plan(f"soon {seed}", 4) for seed in range(300)]
        began = time.time()
        for plan in drawn:
            for step in found(plan, SCHEMAS):
                self.assertTrue(takes(plan, step, SCHEMAS))
            self.assertEqual(simple(plan), simple(plan))
        self.assertLess(time.time() - began, 20)


if __name__ == "__main__":
    unittest.main()
