"""Random plans over the tables of generated.py; the same seed gives the same ones."""

import random

from entablature.errors import PeristyleError
from entablature.plan import kinds

SCHEMAS = (
    ("t", (("a", "int", False), ("b", "text", True), ("c", "bool", True)), ((0,),)),
    ("u", (("a", "int", True), ("d", "int", False)), ((1,),)),
    ("v", (("e", "text", True), ("f", "int", True)), ()),
    ("w", (("g", "int", False), ("h", "int", False), ("k", "bool", False)), ((0, 1), (1, 2))),
)
FORMS = {schema[0]: schema for schema in SCHEMAS}
NUMBERS = (-2, -1, 0, 1, 2, 3, 10 ** 18 - 1)
TEXTS = ("", "a", "b", "12", "-3")


def value(rnd, kind, nullable=True):
    if nullable and rnd.random() < 0.25:
        return None
    if kind == "int":
        return rnd.choice(NUMBERS)
    if kind == "text":
        return rnd.choice(TEXTS)
    return rnd.random() < 0.5


def table_rows(rnd, schema, most):
    rows = []
    taken = [set() for _ in schema[2]]
    for _ in range(rnd.randrange(most + 1)):
        row = tuple([value(rnd, kind, nullable) for _, kind, nullable in schema[1]])
        told = [tuple([row[at] for at in key]) for key in schema[2]]
        if not any([key in seen for key, seen in zip(told, taken)]):
            for key, seen in zip(told, taken):
                seen.add(key)
            rows.append(row)
    return rows


def tables(seed, most=4):
    rnd = random.Random(seed)
    return {schema[0]: (schema, table_rows(rnd, schema, most)) for schema in SCHEMAS}


class Plans:
    """Makes plans; nested tells whether there may be plans in expressions."""

    def __init__(self, seed, nested=True, faulty=0.2):
        self.rnd = random.Random(seed)
        self.nested = nested
        self.faulty = faulty

    def pick(self, *choices):
        return self.rnd.choice(choices)

    def maybe(self, chance):
        return self.rnd.random() < chance

    def kinds(self, plan, outers):
        return [kind for kind in self.told(plan, outers)]

    def told(self, plan, outers):
        from entablature.fitting import Fitting
        return Fitting(FORMS).plan(plan, [tuple(row) for row in outers])

    def leaf(self, kind, row, outers):
        places = [("col", at) for at, told in enumerate(row) if told == kind]
        for far, other in enumerate(outers):
            places += [("outer", far + 1, at) for at, told in enumerate(other) if told == kind]
        if places and self.maybe(0.8):
            return self.pick(*places)
        return ("const", kind, value(self.rnd, kind))

    def expr(self, kind, row, outers, deep):
        if deep <= 0 or self.maybe(0.25):
            return self.leaf(kind, row, outers)
        if self.maybe(0.1):
            cond = self.expr("bool", row, outers, deep - 1)
            pairs = [(cond, self.expr(kind, row, outers, deep - 1))]
            if self.maybe(0.3):
                pairs.append((self.pick(("const", "bool", None), ("const", "bool", True)), self.leaf(kind, row, outers)))
            return ("case", tuple(pairs), self.expr(kind, row, outers, deep - 1))
        if self.nested and len(outers) < 2 and self.maybe(0.08):
            return self.with_plan(kind, row, outers, deep)
        sub = lambda told: self.expr(told, row, outers, deep - 1)
        if kind == "int":
            if self.maybe(self.faulty):
                return ("op", self.pick("add", "sub", "mul", "div", "mod"), (sub("int"), sub("int")))
            return self.pick(("op", "neg", (sub("int"),)), ("op", "size", (sub("text"),)),
                             ("op", self.pick("most", "least", "coalesce", "nullif"), (sub("int"), sub("int"))))
        if kind == "text":
            return self.pick(("op", "upper", (sub("text"),)), ("op", "words", (sub("int"),)),
                             ("op", "part", (sub("text"), sub("int"), sub("int"))),
                             ("op", "coalesce", (sub("text"), sub("text"))))
        told = self.pick("int", "int", "text", "bool")
        return self.pick(("op", self.pick("and", "or"), (sub("bool"), sub("bool"))),
                         ("op", self.pick("and", "or"), (sub("bool"), sub("bool"))),
                         ("op", "not", (sub("bool"),)), ("op", "isnull", (sub(told),)),
                         ("op", self.pick("eq", "ne", "lt", "le", "gt", "ge", "same"), (sub(told), sub(told))),
                         ("op", "eq", (self.leaf(told, row, outers), self.leaf(told, row, outers))),
                         ("op", "eq", (self.leaf("int", row, outers), self.leaf("int", row, outers))))

    def with_plan(self, kind, row, outers, deep):
        around = [row] + outers
        if kind == "bool":
            plan = self.plan(self.pick(0, 1, 2), around)
            if self.maybe(0.6):
                return ("exists", plan)
            told = self.told(plan, around)
            if len(told) == 0:
                return ("exists", plan)
            at = self.rnd.randrange(len(told))
            return ("in", self.expr(told[at], row, outers, deep - 1), ("select", (("col", at),), plan))
        plan = self.plan(self.pick(0, 1), around)
        told = self.told(plan, around)
        if kind not in told:
            return self.leaf(kind, row, outers)
        plan = ("select", (("col", told.index(kind)),), plan)
        if self.maybe(0.6):
            plan = ("group", (), (("max", False, ("col", 0)),), plan)
        return ("scalar", plan)

    def cond(self, row, outers, deep):
        if self.maybe(0.15):
            parts = [self.expr("bool", row, outers, deep - 1) for _ in range(2)]
            return ("op", "and", tuple(parts))
        if self.maybe(0.05):
            return ("const", "bool", True)
        return self.expr("bool", row, outers, deep)

    def exprs(self, row, outers, many):
        found = []
        for _ in range(many):
            kind = self.pick("int", "text", "bool")
            places = [("col", at) for at in range(len(row))]
            found.append(self.pick(*places) if places and self.maybe(0.6) else self.expr(kind, row, outers, 2))
        return tuple(found)

    def order(self, row, outers):
        return tuple([(expr, self.maybe(0.5), self.maybe(0.5)) for expr in self.exprs(row, outers, self.pick(0, 1, 2))])

    def agg(self, row, outers):
        name = self.pick("rows", "count", "sum", "avg", "min", "max", "every", "some")
        if name == "rows":
            return (name, False, None)
        kind = {"sum": "int", "avg": "int", "every": "bool", "some": "bool"}.get(name) or self.pick("int", "text")
        return (name, self.maybe(0.3), self.expr(kind, row, outers, 1))

    def fun(self, row, outers):
        name, _, arg = self.agg(row, outers)
        frame = self.pick(None, None, (("before", 1), ("here", 0)), (("start", 0), ("after", 1)),
                          (("after", 1), ("before", 1)))
        if self.maybe(0.3):
            name, arg, frame = self.pick("place", "rank", "dense"), None, None
        elif self.maybe(0.2):
            name, arg, frame = self.pick("lag", "lead"), self.expr(self.pick("int", "text"), row, outers, 1), None
        partition = self.exprs(row, outers, self.pick(0, 1))
        return (name, arg, partition, self.order(row, outers), frame)

    def rows(self):
        told = [self.pick("int", "text", "bool") for _ in range(self.pick(0, 1, 2))]
        return ("rows", tuple(told), tuple([tuple([value(self.rnd, kind) for kind in told])
                                            for _ in range(self.pick(0, 1, 2, 3))]))

    def alike(self, plan, outers, deep):
        """Another plan with the same kinds."""
        row = self.told(plan, outers)
        other = self.plan(deep, outers)
        told = self.told(other, outers)
        if told == row:
            return other
        return ("select", tuple([self.expr(kind, told, outers, 1) for kind in row]), other)

    def plan(self, deep, outers=()):
        outers = list(outers)
        if deep <= 0:
            return ("scan", self.pick("t", "u", "v", "w")) if self.maybe(0.85) else self.rows()
        word = self.pick("where", "where", "where", "select", "select", "select", "join", "join", "join", "join",
                         "group", "distinct", "union", "except", "meet", "window", "top")
        below = self.plan(deep - 1 if self.maybe(0.8) else 0, outers)
        row = self.told(below, outers)
        if word == "where":
            return ("where", self.cond(row, outers, 3), below)
        if word == "select":
            if self.maybe(0.1):
                return ("select", tuple([("col", at) for at in range(len(row))]), below)
            return ("select", self.exprs(row, outers, self.pick(1, 2, 3)), below)
        if word == "join":
            other = self.plan(self.pick(0, deep - 1), outers)
            both = row + self.told(other, outers)
            cond = self.cond(both, outers, 2)
            pairs = [(at, len(row) + spot) for at, kind in enumerate(row)
                     for spot, told in enumerate(both[len(row):]) if kind == told]
            if pairs and self.maybe(0.5):
                equal = ("op", "eq", tuple([("col", at) for at in self.rnd.sample(self.pick(*pairs), 2)]))
                cond = self.pick(equal, equal, ("op", "and", (equal, cond)), ("op", "and", (cond, equal)))
            return ("join", self.pick("inner", "inner", "inner", "left", "left", "right", "full", "semi", "anti"),
                    cond, below, other)
        if word == "group":
            keys = self.exprs(row, outers, self.pick(0, 1, 1, 2))
            return ("group", keys, tuple([self.agg(row, outers) for _ in range(self.pick(0, 1, 2))]), below)
        if word == "distinct":
            return ("distinct", below)
        if word == "window":
            return ("window", tuple([self.fun(row, outers) for _ in range(self.pick(0, 1, 2))]), below)
        if word == "top":
            return ("top", self.order(row, outers), self.pick(None, None, 0, 1, 2), self.pick(0, 0, 1), below)
        return (word, below, self.alike(below, outers, self.pick(0, deep - 1)))


def plan(seed, deep=None, nested=True, faulty=0.2):
    """A random plan that is right."""
    at = 0
    while True:
        maker = Plans(f"{seed} {at}", nested, faulty)
        found = maker.plan(maker.pick(1, 2, 3) if deep is None else deep)
        try:
            kinds(found, SCHEMAS)
            return found
        except PeristyleError as why:
            if type(why).__name__ != "TooMuch":
                raise
            at += 1


class Baits(Plans):
    """Makes plans to which rules nearly fit, or fit."""

    def equal(self, low, many, high, kinds):
        """An eq of a left and a right column, if there is one."""
        pairs = [(("col", at), ("col", spot)) for at in range(low, many) for spot in range(many, high)
                 if kinds[at] == kinds[spot] == "int"]
        if not pairs:
            return ("op", "isnull", (("const", "int", 1),))
        return ("op", "eq", tuple(self.rnd.sample(self.pick(*pairs), 2)))

    def side(self, outers=()):
        return self.plan(self.pick(0, 0, 0, 1), list(outers))

    def join(self, kinds=("inner", "left", "right", "semi", "anti")):
        left, right = self.side(), self.side()
        row = self.told(left, [])
        both = row + self.told(right, [])
        cond = self.equal(0, len(row), len(both), both)
        if self.maybe(0.5):
            cond = ("op", "and", (cond, self.expr("bool", both, [], 1)))
        if self.maybe(0.2):
            cond = self.expr("bool", both, [], 2)
        return ("join", self.pick(*kinds), cond, left, right)

    def over(self, below):
        row = self.told(below, [])
        return ("where", self.cond(row, [], self.pick(1, 1, 2)), below)

    def half(self, below):
        """A where over a join, with a condition of one side alone."""
        row = self.told(below[3], [])
        if self.maybe(0.5) or below[1] in ("semi", "anti"):
            return ("where", self.cond(row, [], self.pick(1, 1, 2)), below)
        other = self.told(below[4], [])
        cond = self.cond(other, [], self.pick(1, 1, 2))
        from entablature.plan import moved
        return ("where", moved(cond, [len(row) + at for at in range(len(other))]), below)

    def chosen(self, below):
        """A select of some columns."""
        row = self.told(below, [])
        exprs = [("col", self.rnd.randrange(len(row))) for _ in range(self.pick(1, 2)) if row]
        return ("select", tuple(exprs), below)

    def three(self):
        first, second, third = self.side(), self.side(), self.side()
        rows = [self.told(part, []) for part in (first, second, third)]
        many, more = len(rows[0]), len(rows[0]) + len(rows[1])
        both, all_of = rows[0] + rows[1], rows[0] + rows[1] + rows[2]
        inner = self.equal(0, many, more, both)
        outer = self.equal(self.pick(0, many), more, len(all_of), all_of)
        if self.maybe(0.5):
            return ("join", "inner", outer, ("join", "inner", inner, first, second), third)
        from entablature.plan import moved
        told = self.expr("bool", rows[1] + rows[2], [], 1)
        if self.maybe(0.5):
            told = moved(outer, [max(at - many, 0) for at in range(len(all_of))])
            try:
                self.told(("where", told, ("join", "inner", ("const", "bool", True), second, third)), [])
            except PeristyleError:
                told = ("const", "bool", True)
        return ("join", "inner", self.pick(inner, self.expr("bool", all_of, [], 1)), first,
                ("join", "inner", told, second, third))

    def existing(self):
        below = self.side()
        row = self.told(below, [])
        rest = self.side(self.pick([], [], [row]))
        told = self.told(rest, [row])
        pairs = [(("outer", 1, at), ("col", spot)) for at, kind in enumerate(row)
                 for spot, other in enumerate(told) if kind == other]
        cond = self.expr("bool", told, [row], self.pick(0, 1, 2))
        if pairs and self.maybe(0.7):
            cond = ("op", "eq", tuple(self.rnd.sample(self.pick(*pairs), 2)))
        plan = ("where", cond, rest) if self.maybe(0.8) else rest
        if self.maybe(0.5) or not told:
            expr = ("exists", plan)
            return ("where", self.pick(expr, ("op", "not", (expr,))), below)
        at = self.rnd.randrange(len(told))
        one = self.expr(told[at], told, [], 1) if self.maybe(0.5) else ("col", at)
        return ("where", ("in", self.expr(told[at], row, [], 1), ("select", (one,), plan)), below)

    def group(self):
        below = self.side()
        row = self.told(below, [])
        keys = self.exprs(row, [], self.pick(0, 1, 2))
        return ("group", keys, tuple([self.agg(row, []) for _ in range(self.pick(0, 1, 2))]), below)

    def bait(self):
        roll = self.rnd.randrange(11)
        if roll == 0:
            return self.over(self.over(self.side()))
        if roll == 1:
            return self.half(self.join())
        if roll == 2:
            return self.over(self.join(("left", "left", "inner")))
        if roll == 3:
            return self.chosen(self.join(("left", "left", "inner", "semi")))
        if roll == 4:
            return self.three()
        if roll == 5:
            return self.existing()
        if roll == 6:
            below = self.group()
            keys = self.told(below, [])[:len(below[1])]
            if keys and self.maybe(0.7):
                return ("where", self.expr("bool", keys, [], 2), below)
            return self.pick(self.over(below), self.chosen(below))
        if roll == 7:
            return self.pick(self.over(("distinct", self.side())), ("distinct", self.join()), ("distinct", self.group()))
        if roll == 8:
            left = self.side()
            return self.over(("union", left, self.alike(left, [], 0)))
        if roll == 9:
            below = self.side()
            row = self.told(below, [])
            window = ("window", tuple([self.fun(row, []) for _ in range(self.pick(1, 2))]), below)
            return self.chosen(window)
        return self.join(("semi", "semi", "inner"))


def bait(seed, nested=True, faulty=0.15):
    """A random plan that is right and looks like one that a rule changes; it may stand inside of another one."""
    at = 0
    while True:
        maker = Baits(f"bait {seed} {at}", nested, faulty)
        found = maker.bait()
        if maker.maybe(0.3):
            found = maker.pick(("distinct", found), ("top", (), 2, 0, found), maker.over(found), maker.chosen(found))
        try:
            kinds(found, SCHEMAS)
            return found
        except PeristyleError as why:
            if type(why).__name__ != "TooMuch":
                raise
            at += 1


def turned(plan, seed):
    """Plans that are right and differ from a plan in one place."""
    rnd = random.Random(f"turned {seed}")
    places = []

    def walk(x, path):
        if isinstance(x, tuple):
            for at, part in enumerate(x):
                walk(part, path + (at,))
        else:
            places.append((path, x))

    def put(x, path, new):
        if not path:
            return new
        return x[:path[0]] + (put(x[path[0]], path[1:], new),) + x[path[0] + 1:]

    walk(plan, ())
    found = []
    for _ in range(6):
        path, old = rnd.choice(places)
        if isinstance(old, bool):
            new = not old
        elif isinstance(old, int):
            new = old + rnd.choice((-1, 1))
        else:
            new = rnd.choice(("and", "or", "eq", "ne", "lt", "inner", "left", "semi", "anti", "t", "u", "v", "w", "a", None))
        told = put(plan, path, new)
        try:
            kinds(told, SCHEMAS)
            found.append(told)
        except PeristyleError:
            pass
    return found
