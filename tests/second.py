"""A second reading of the rules of steps, row by row of [8.3], over plain tuples.

What is safe, steady, a key or a fault is told by the functions of the program, as the document says; what is done with
columns is written anew here.
"""

from entablature.errors import PeristyleError
from entablature.facts import facts, safe
from entablature.operators import is_strict, kind_of, worked
from entablature.plan import kinds

TRUE, FALSE = ("const", "bool", True), ("const", "bool", False)
WORDS = ("col", "outer", "const", "op", "case", "scalar", "exists", "in")
PLANS = ("scan", "rows", "where", "select", "join", "group", "distinct", "union", "except", "meet", "window", "top")


def is_expr(x):
    return isinstance(x, tuple) and len(x) > 0 and isinstance(x[0], str) and x[0] in WORDS and not (
        x[0] == "in" and len(x) != 3)


def is_plan(x):
    return isinstance(x, tuple) and len(x) > 1 and isinstance(x[0], str) and x[0] in PLANS


def leaves(x, level=0):
    """Columns and outers with the number of plans around them; rows are passed over."""
    if not isinstance(x, tuple) or (is_plan(x) and x[0] in ("rows", "scan")):
        return []
    if is_expr(x) and x[0] in ("col", "outer"):
        return [(x, level)]
    if is_expr(x) and x[0] == "const":
        return []
    inner = level + 1 if is_expr(x) and x[0] in ("scalar", "exists", "in") else level
    found = []
    for at, part in enumerate(x):
        deep = level if is_expr(x) and x[0] == "in" and at == 1 else inner
        found += leaves(part, deep)
    return found


def columns(expr):
    found = set()
    for leaf, level in leaves(expr):
        if leaf[0] == "col" and level == 0:
            found.add(leaf[1])
        if leaf[0] == "outer" and leaf[1] == level:
            found.add(leaf[2])
    return found


def swapped(x, change, level=0):
    """Each column and outer leaf changed."""
    if not isinstance(x, tuple) or (is_plan(x) and x[0] in ("rows", "scan")):
        return x
    if is_expr(x) and x[0] in ("col", "outer"):
        return change(x, level)
    if is_expr(x) and x[0] == "const":
        return x
    inner = level + 1 if is_expr(x) and x[0] in ("scalar", "exists", "in") else level
    return tuple([swapped(part, change, level if is_expr(x) and x[0] == "in" and at == 1 else inner)
                  for at, part in enumerate(x)])


def put(expr, exprs):
    """Expressions (or a dict of them) in the place of columns."""
    def deep(worth, far):
        """The same expression so many plans further in."""
        def further(leaf, level):
            if leaf[0] == "outer":
                return ("outer", leaf[1] + far, leaf[2]) if leaf[1] >= level else leaf
            return ("outer", far, leaf[1]) if level == 0 else leaf
        return swapped(worth, further)

    def change(leaf, level):
        if leaf[0] == "col" and level == 0:
            return exprs[leaf[1]]
        if leaf[0] == "outer" and leaf[1] == level and level > 0:
            return deep(exprs[leaf[2]], level)
        return leaf

    return swapped(expr, change)


def move(expr, places):
    return put(expr, {old: ("col", new) for old, new in places.items()})


def ands(cond):
    if cond[0] == "op" and cond[1] == "and":
        return ands(cond[2][0]) + ands(cond[2][1])
    return [cond]


def right_of_eqs(cond, many):
    """The right columns of the parts eq of a left and a right column."""
    found = set()
    for part in ands(cond):
        if part[0] == "op" and part[1] == "eq" and part[2][0][0] == part[2][1][0] == "col":
            a, b = part[2][0][1], part[2][1][1]
            if (a < many) != (b < many):
                found.add(max(a, b) - many)
    return found


def null_in(expr, cols):
    if expr[0] == "col":
        return expr[1] in cols
    return expr[0] == "op" and is_strict(expr[1]) and any(null_in(arg, cols) for arg in expr[2])


def strict_in(cond, cols):
    if null_in(cond, cols):
        return True
    if cond[0] == "op" and cond[1] == "and":
        return strict_in(cond[2][0], cols) or strict_in(cond[2][1], cols)
    return cond[0] == "op" and cond[1] == "or" and strict_in(cond[2][0], cols) and strict_in(cond[2][1], cols)


def ordered(plan):
    return plan[0] == "top" or (plan[0] == "select" and ordered(plan[2]))


class Reading:
    def __init__(self, schemas):
        self.schemas = schemas

    def width(self, plan):
        return len(facts(plan, self.schemas)[0])

    def faults(self, plan):
        return facts(plan, self.schemas)[1]

    def steady(self, plan):
        return not facts(plan, self.schemas)[2]

    def has_key(self, plan, cols):
        return any(set(key) <= cols for key in facts(plan, self.schemas)[3])

    def pair(self, left, right):
        return self.faults(left) + self.faults(right)

    def where(self, cond, below):
        word = below[0]
        if cond[0] == "op" and cond[1] == "and" and safe(cond[2][0], self.faults(below)):
            yield "split", ("where", cond[2][1], ("where", cond[2][0], below))
        if word == "where" and safe(below[1], self.faults(below[2])):
            yield "merge", ("where", ("op", "and", (below[1], cond)), below[2])
        if cond == TRUE and not ordered(below):
            yield "true", below
        if word == "select":
            yield "select", ("select", below[1], ("where", put(cond, below[1]), below[2]))
        if word == "join":
            yield from self.where_join(cond, *below[1:])
        if word == "union":
            if safe(cond, self.faults(below)) or (self.steady(below[1]) and self.steady(below[2])):
                yield "unite", ("union", ("where", cond, below[1]), ("where", cond, below[2]))
        if word == "distinct" and not any(self.faults(below[1])):
            yield "oncewhere", ("distinct", ("where", cond, below[1]))
        if word == "group" and below[1] and columns(cond) <= set(range(len(below[1]))):
            if safe(cond, self.faults(below)) and all(safe(key, self.faults(below[3])) for key in below[1]):
                yield "groupwhere", ("group", below[1], below[2], ("where", put(cond, below[1]), below[3]))
        yield from self.nested(cond, below)

    def where_join(self, cond, kind, on, left, right):
        many, more = self.width(left), self.width(right)
        first, second = set(range(many)), set(range(many, many + more))
        both = self.pair(left, right)
        rows = both if kind not in ("semi", "anti") else self.faults(left)
        if kind in ("inner", "left", "semi", "anti") and columns(cond) <= first and safe(cond, rows):
            if safe(on, both) and self.steady(right):
                yield "down", ("join", kind, on, ("where", cond, left), right)
        if kind in ("inner", "right") and columns(cond) <= second and safe(cond, rows):
            if safe(on, both) and self.steady(left):
                told = move(cond, {at: at - many for at in second})
                yield "downright", ("join", kind, on, left, ("where", told, right))
        if kind == "inner" and safe(on, both):
            yield "on", ("join", "inner", ("op", "and", (on, cond)), left, right)
        if kind == "left" and strict_in(cond, second) and safe(on, both):
            yield "strict", ("where", cond, ("join", "inner", on, left, right))

    def nested(self, cond, below):
        kind = None
        if cond[0] == "exists":
            kind, inner = "semi", cond[1]
        if cond[0] == "op" and cond[1] == "not" and cond[2][0][0] == "exists":
            kind, inner = "anti", cond[2][0][1]
        if cond[0] == "in" and cond[2][0] == "select":
            kind, inner = "in", cond[2][2]
        if kind is None or not self.steady(below):
            return
        d, rest = (inner[1], inner[2]) if inner[0] == "where" else (TRUE, inner)
        # Seen from the expression in which it stands, an outer of the plan's own expressions has the level 1.
        if any(leaf[0] == "outer" and leaf[1] >= level for leaf, level in leaves(("exists", rest))):
            return
        if any(level > 0 for _, level in leaves(d)) or "scan" in str(d) or "rows" in str(d) or not self.steady(rest):
            return
        if any(leaf[0] == "outer" and leaf[1] != 1 for leaf, _ in leaves(d)):
            return
        many = self.width(below)

        def paired(expr):
            return swapped(expr, lambda leaf, _: ("col", leaf[2]) if leaf[0] == "outer" else ("col", many + leaf[1]))

        told = paired(d)
        if kind == "in":
            f = cond[2][1][0]
            if not safe(cond[1], self.faults(below)) or not safe(f, self.faults(rest)):
                return
            told = ("op", "and", (told, ("op", "eq", (cond[1], paired(f)))))
        if safe(told, self.pair(below, rest)):
            name = {"semi": "exists", "anti": "notexists", "in": "within"}[kind]
            yield name, ("join", "anti" if kind == "anti" else "semi", told, below, rest)

    def join(self, kind, cond, left, right):
        many, more = self.width(left), self.width(right)
        both = self.pair(left, right)
        if kind == "inner" and cond[0] == "op" and cond[1] == "and" and safe(cond[2][0], both):
            yield "off", ("where", cond[2][1], ("join", "inner", cond[2][0], left, right))
        if kind in ("inner", "left", "right"):
            places = {at: at + more if at < many else at - many for at in range(many + more)}
            other = {"inner": "inner", "left": "right", "right": "left"}[kind]
            back = tuple([("col", places[at]) for at in range(many + more)])
            yield ("swap" if kind == "inner" else "swapouter"), ("select", back, ("join", other, move(cond, places), right, left))
        if kind == "inner" and left[:2] == ("join", "inner"):
            _, _, on, first, middle = left
            one, two = self.width(first), self.width(middle)
            if columns(cond) <= set(range(one, one + two + more)) and safe(cond, both) and safe(on, self.pair(first, middle)):
                if self.steady(first) and self.steady(right):
                    told = move(cond, {at: at - one for at in range(one, one + two + more)})
                    yield "turn", ("join", "inner", on, first, ("join", "inner", told, middle, right))
        if kind == "inner" and right[:2] == ("join", "inner"):
            _, _, on, middle, last = right
            two = self.width(middle)
            if columns(cond) <= set(range(many + two)) and safe(cond, both) and safe(on, self.pair(middle, last)):
                if self.steady(left) and self.steady(last):
                    told = move(on, {at: at + many for at in range(more)})
                    yield "turnback", ("join", "inner", told, ("join", "inner", cond, left, middle), last)
        if kind == "semi" and safe(cond, both) and self.has_key(right, right_of_eqs(cond, many)):
            yield "semi", ("select", tuple([("col", at) for at in range(many)]), ("join", "inner", cond, left, right))

    def select(self, exprs, below):
        width = self.width(below)
        word = below[0]
        if word == "select":
            yield "inline", ("select", tuple([put(expr, below[1]) for expr in exprs]), below[2])
        if exprs == tuple([("col", at) for at in range(width)]):
            yield "same", below
        used = set().union(*[columns(expr) for expr in exprs]) if exprs else set()
        for told, kept in self.pruned(below, used):
            places = {old: new for new, old in enumerate(kept)}
            yield "prune", ("select", tuple([move(expr, places) for expr in exprs]), told)
        if word == "join" and below[1] == "left":
            _, _, cond, left, right = below
            many = self.width(left)
            if used <= set(range(many)) and safe(cond, self.pair(left, right)) and self.steady(right) and not ordered(left):
                if self.has_key(right, right_of_eqs(cond, many)):
                    yield "drop", ("select", exprs, left)

    def pruned(self, plan, used):
        """Pairs of a plan that lacks columns, and the columns that it keeps."""
        if plan[0] == "join":
            _, kind, cond, left, right = plan
            many, more = self.width(left), self.width(right)
            need = used | columns(cond)
            one = [at for at in range(many) if at in need]
            two = [at for at in range(many, many + more) if at in need]
            whole_one, whole_two = list(range(many)), list(range(many, many + more))
            for first, second in ((one, whole_two), (whole_one, two)):
                if (first, second) == (whole_one, whole_two):
                    continue
                sides = [left if first == whole_one else ("select", tuple([("col", at) for at in first]), left),
                         right if second == whole_two else ("select", tuple([("col", at - many) for at in second]), right)]
                told = move(cond, {old: new for new, old in enumerate(first + second)})
                yield ("join", kind, told, *sides), first if kind in ("semi", "anti") else first + second
        if plan[0] == "window":
            width = self.width(plan[2])
            free = self.faults(plan[2])
            kept = [at for at, fun in enumerate(plan[1]) if width + at in used or not all(
                safe(expr, free) for expr in list(fun[2]) + [item[0] for item in fun[3]])]
            if len(kept) < len(plan[1]):
                yield (("window", tuple([plan[1][at] for at in kept]), plan[2]),
                       list(range(width)) + [width + at for at in kept])
        if plan[0] == "group":
            many = len(plan[1])
            kept = [at for at in range(len(plan[2])) if many + at in used]
            if len(kept) < len(plan[2]):
                yield (("group", plan[1], tuple([plan[2][at] for at in kept]), plan[3]),
                       list(range(many)) + [many + at for at in kept])
        if plan[0] == "select":
            kept = [at for at in range(len(plan[1])) if at in used]
            if len(kept) < len(plan[1]):
                yield ("select", tuple([plan[1][at] for at in kept]), plan[2]), kept

    def folds(self, x):
        """Expressions that are simpler at one place."""
        if x[0] == "op":
            name, args = x[1], x[2]
            if name in ("and", "or"):
                unit, zero = (TRUE, FALSE) if name == "and" else (FALSE, TRUE)
                for one, other in (args, args[::-1]):
                    if one == unit:
                        yield other
                    if one == zero:
                        yield zero
            if name == "not" and args[0][:2] == ("op", "not"):
                yield args[0][2][0]
            if all(arg[0] == "const" for arg in args):
                told = worked(name, tuple([arg[2] for arg in args]))
                if not isinstance(told, tuple):
                    yield ("const", kind_of(name, tuple([arg[1] for arg in args])), told)
            for at, arg in enumerate(args):
                for told in self.folds(arg):
                    yield ("op", name, args[:at] + (told,) + args[at + 1:])
        if x[0] == "case":
            first = x[1][0]
            if first[0] == TRUE:
                yield first[1]
            elif first[0][0] == "const":
                yield ("case", x[1][1:], x[2]) if len(x[1]) > 1 else x[2]
            for at, (cond, worth) in enumerate(x[1]):
                for told in self.folds(cond):
                    yield ("case", x[1][:at] + ((told, worth),) + x[1][at + 1:], x[2])
                for told in self.folds(worth):
                    yield ("case", x[1][:at] + ((cond, told),) + x[1][at + 1:], x[2])
            for told in self.folds(x[2]):
                yield ("case", x[1], told)
        if x[0] == "in":
            for told in self.folds(x[1]):
                yield ("in", told, x[2])

    def here(self, plan):
        if plan[0] == "where":
            yield from self.where(plan[1], plan[2])
            for told in self.folds(plan[1]):
                yield "fold", ("where", told, plan[2])
        if plan[0] == "select":
            yield from self.select(plan[1], plan[2])
            for at, expr in enumerate(plan[1]):
                for told in self.folds(expr):
                    yield "fold", ("select", plan[1][:at] + (told,) + plan[1][at + 1:], plan[2])
        if plan[0] == "join":
            yield from self.join(*plan[1:])
        if plan[0] == "distinct" and facts(plan[1], self.schemas)[3] and not ordered(plan[1]):
            if not any(self.faults(plan[1])):
                yield "once", plan[1]

    def steps(self, plan):
        """All steps as pairs of a rule and a path, and the plan of the place behind it."""
        for rule, after in self.here(plan):
            yield rule, (), after
        inputs = {"join": (3, 4), "union": (1, 2), "except": (1, 2), "meet": (1, 2), "scan": (), "rows": ()}.get(
            plan[0], (len(plan) - 1,))
        for number, at in enumerate(inputs):
            for rule, path, after in self.steps(plan[at]):
                yield rule, (number,) + path, plan[:at] + (after,) + plan[at + 1:]


def all_steps(plan, schemas):
    """The set of all steps that lead to right plans."""
    told = set()
    for step in Reading(schemas).steps(plan):
        try:
            kinds(step[2], schemas)
            told.add(step)
        except PeristyleError as why:
            assert type(why).__name__ == "TooMuch", (step, why)
    return told
