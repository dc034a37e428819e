"""Random queries, tables and plans for the tests; the same seed gives the same ones."""

import random

SCHEMAS = (
    ("t", (("a", "int", False), ("b", "text", True), ("c", "bool", True)), ((0,),)),
    ("u", (("a", "int", True), ("d", "int", True)), ()),
    ("v", (("e", "text", True), ("f", "int", True)), ()),
)

COLUMNS = {"t": (("a", "int"), ("b", "text"), ("c", "bool")), "u": (("a", "int"), ("d", "int")),
           "v": (("e", "text"), ("f", "int"))}


def tables(seed):
    """Small tables for the schemas."""
    rnd = random.Random(seed)
    found = {}
    for schema in SCHEMAS:
        rows = []
        for at in range(rnd.randrange(5)):
            row = []
            for name, kind, nullable in schema[1]:
                row.append(value(rnd, kind) if not nullable or rnd.random() < 0.7 else None)
            if schema[2]:
                row[0] = at
            rows.append(tuple(row))
        found[schema[0]] = (schema, rows)
    return found


def value(rnd, kind):
    if kind == "int":
        return rnd.choice((-2, -1, 0, 1, 2, 3, 999999999999999999))
    if kind == "text":
        return rnd.choice(("", "a", "b", "ab", "12", "-3", "x'y"))
    return rnd.random() < 0.5


class Maker:
    """Makes queries, most of them right; wild makes more of them wrong."""

    def __init__(self, seed, wild=0.0):
        self.rnd = random.Random(seed)
        self.wild = wild
        self.scopes = []
        self.known = []

    def pick(self, *choices):
        return self.rnd.choice(choices)

    def maybe(self, chance):
        return self.rnd.random() < chance

    def literal(self, kind):
        if self.maybe(0.12):
            return "NULL"
        if kind == "int":
            return str(self.rnd.choice((0, 1, 2, 3, 10, 999999999999999999)))
        if kind == "text":
            return self.pick("'a'", "'b'", "''", "'12'", "'x''y'", "'a*'", "'?b'")
        return self.pick("TRUE", "FALSE")

    def column(self, kind):
        found = []
        for scope in self.scopes[-2:]:
            for table, name, told in scope:
                if told == kind or self.maybe(self.wild):
                    found.append(self.pick(f"{table}.{name}", f"{table}.{name}", name))
        if self.maybe(self.wild):
            return self.pick("nope", "t.nope", "a", "x1.a")
        return self.rnd.choice(found) if found else self.literal(kind)

    def expr(self, kind, deep, calls=0):
        """calls: 0 no calls, 1 aggs, 2 windows too."""
        if self.maybe(self.wild / 2):
            kind = self.pick("int", "text", "bool")
        if deep <= 0 or self.maybe(0.2):
            return self.literal(kind) if self.maybe(0.4) else self.column(kind)
        roll = self.rnd.random()
        if calls and roll < 0.25:
            return self.call(kind, deep, calls)
        if roll < 0.32 and len(self.scopes) < 3:
            return f"({self.query(deep - 1, (kind,), limit=True)})"
        if roll < 0.4:
            return self.case(kind, deep, calls)
        if roll < 0.45:
            return f"({self.expr(kind, deep - 1, calls)})"
        return getattr(self, kind + "_expr")(deep - 1, calls)

    def case(self, kind, deep, calls):
        pairs = " ".join([f"WHEN {self.expr('bool', deep - 1, calls)} THEN {self.expr(kind, deep - 1, calls)}"
                          for _ in range(self.rnd.randrange(1, 3))])
        other = f" ELSE {self.expr(kind, deep - 1, calls)}" if self.maybe(0.6) else ""
        return f"CASE {pairs}{other} END"

    def int_expr(self, deep, calls):
        sub = lambda: self.expr("int", deep, calls)
        roll = self.rnd.randrange(9)
        if roll < 3:
            return f"({sub()} {self.pick('+', '-', '*', '/')} {sub()})"
        if roll == 3:
            return f"- {self.column('int')}"
        if roll == 4:
            return f"size({self.expr('text', deep, calls)})"
        if roll == 5:
            return f"number({self.expr('text', deep, calls)})"
        if roll == 6:
            return f"mod({sub()}, {sub()})"
        if roll == 7:
            return f"coalesce({sub()}, {sub()})"
        return f"{self.pick('most', 'least', 'nullif')}({sub()}, {sub()})"

    def text_expr(self, deep, calls):
        sub = lambda: self.expr("text", deep, calls)
        roll = self.rnd.randrange(5)
        if roll == 0:
            return f"({sub()} || {sub()})"
        if roll == 1:
            return f"{self.pick('upper', 'lower')}({sub()})"
        if roll == 2:
            return f"part({sub()}, {self.expr('int', deep, calls)}, 1)"
        if roll == 3:
            return f"words({self.expr('int', deep, calls)})"
        return f"coalesce({sub()}, {sub()})"

    def bool_expr(self, deep, calls):
        kind = self.pick("int", "int", "text", "bool")
        side = lambda told: f"({self.expr(told, deep, calls)})" if told == "bool" else self.expr(told, deep, calls)
        roll = self.rnd.randrange(10)
        if roll < 3:
            return f"{side(kind)} {self.pick('=', '<>', '<', '<=', '>', '>=')} {side(kind)}"
        if roll == 3:
            return f"({self.expr('bool', deep, calls)} {self.pick('AND', 'OR')} {self.expr('bool', deep, calls)})"
        if roll == 4:
            return f"NOT {self.expr('bool', deep, calls)}"
        if roll == 5:
            return f"{side(kind)} IS {self.pick('', 'NOT ')}NULL"
        if roll == 6:
            return f"{side('bool')} IS {self.pick('TRUE', 'NOT FALSE')}"
        if roll == 7:
            return f"{side(kind)} {self.pick('', 'NOT ')}BETWEEN {side(kind)} AND {side(kind)}"
        if roll == 8:
            others = ", ".join([side(kind) for _ in range(self.rnd.randrange(1, 4))])
            if self.maybe(0.3) and len(self.scopes) < 3:
                others = self.query(deep, (kind,))
            return f"{side(kind)} {self.pick('', 'NOT ')}IN ({others})"
        if self.maybe(0.4) and len(self.scopes) < 3:
            return f"EXISTS ({self.query(deep, (kind,))})"
        return f"{side('text')} LIKE {side('text')}"

    def call(self, kind, deep, calls):
        over = calls == 2 and self.maybe(0.5)
        inside = 1 if over else 0
        if kind == "int":
            name = self.pick("count", "sum", "avg", "min", "max")
            told = self.pick("int", "text", "bool") if name == "count" else "int"
        elif kind == "bool":
            name, told = self.pick("every", "some"), "bool"
        else:
            name, told = self.pick("min", "max"), "text"
        if over and self.maybe(0.4):
            name = self.pick("lag", "lead")
            told = kind
        arg = self.expr(told, deep - 1, inside)
        if not over:
            return f"{name}({self.pick('', '', 'DISTINCT ')}{arg})"
        partition = f"PARTITION BY {self.expr(self.pick('int', 'text'), 0, 1)} " if self.maybe(0.4) else ""
        order = f"ORDER BY {self.expr('int', 1, 1)}{self.pick('', ' DESC', ' NULLS FIRST')} " if self.maybe(0.6) else ""
        frame = ""
        if name not in ("lag", "lead") and self.maybe(0.3):
            frame = self.pick("ROWS BETWEEN 1 PRECEDING AND CURRENT ROW", "ROWS BETWEEN UNBOUNDED PRECEDING AND 1 FOLLOWING",
                              "ROWS BETWEEN 2 PRECEDING AND 1 PRECEDING")
        if kind == "int" and self.maybe(0.3):
            return f"{self.pick('rank', 'dense', 'place')}() OVER ({partition}{order})"
        return f"{name}({arg}) OVER ({partition}{order}{frame})"

    def source(self, at, deep):
        """The text of a base, and its columns."""
        called = f"x{len(self.scopes)}{at}"
        if deep > 0 and self.maybe(0.25):
            kinds = [self.pick("int", "text", "bool") for _ in range(self.rnd.randrange(1, 3))]
            inner = Maker(self.rnd.random(), self.wild)
            inner.scopes = list(self.scopes)
            inner.known = list(self.known)
            text = inner.query(deep - 1, kinds, named="k")
            return f"({text}) AS {called}", [(called, f"k{n}", kind) for n, kind in enumerate(kinds)]
        tables_known = [(name, told) for name, told in COLUMNS.items()] + self.known
        name, columns = self.rnd.choice(tables_known)
        return f"{name} AS {called}", [(called, column, kind) for column, kind in columns]

    def sources(self, deep):
        scope = []
        told = []
        at = 0
        for _ in range(self.rnd.choice((1, 1, 1, 2))):
            text, chain = self.source(at, deep)
            at += 1
            while self.maybe(0.25) and at < 3:
                other, columns = self.source(at, deep)
                at += 1
                chain = chain + columns
                side = self.pick("JOIN", "LEFT JOIN", "RIGHT JOIN", "FULL JOIN", "CROSS JOIN")
                text = f"{text} {side} {other}"
                if side != "CROSS JOIN":
                    self.scopes.append(chain)
                    text = f"{text} ON {self.expr('bool', 1)}"
                    self.scopes.pop()
            told.append(text)
            scope.extend(chain)
        return ", ".join(told), scope

    def query(self, deep, kinds, limit=False, named=None):
        text = ""
        if deep > 0 and self.maybe(0.15):
            told = [self.pick("int", "text") for _ in range(2)]
            name = f"w{len(self.known)}"
            text = f"WITH {name} AS ({self.query(deep - 1, told, named='k')}) "
            self.known.append((name, tuple([(f"k{n}", kind) for n, kind in enumerate(told)])))
            text += self.body(deep, kinds, limit, named)
            self.known.pop()
            return text
        return self.body(deep, kinds, limit, named)

    def body(self, deep, kinds, limit, named):
        roll = self.rnd.random()
        if roll < 0.12 and deep > 0:
            sign = self.pick("UNION", "UNION ALL", "EXCEPT", "EXCEPT ALL", "INTERSECT", "INTERSECT ALL")
            text = f"{self.select(deep - 1, kinds, named)} {sign} {self.select(deep - 1, kinds, named)}"
        elif roll < 0.2 and named is None:
            rows = [f"({', '.join([self.expr(kind, 0) for kind in kinds])})" for _ in range(self.rnd.randrange(1, 3))]
            text = f"VALUES {', '.join(rows)}"
        else:
            text = self.select(deep, kinds, named, order=self.maybe(0.4))
        if limit and self.maybe(0.8):
            text += " LIMIT 1"
        elif self.maybe(0.1):
            text += f" LIMIT {self.rnd.randrange(4)} OFFSET {self.rnd.randrange(3)}"
        return text

    def select(self, deep, kinds, named, order=False):
        sources, scope = self.sources(deep) if self.maybe(0.92) else ("", [])
        self.scopes.append(scope)
        where = f" WHERE {self.expr('bool', deep)}" if self.maybe(0.4) else ""
        groups = ""
        having = ""
        calls = 2 if self.maybe(0.4) else 0
        if self.maybe(0.25):
            keys = [self.expr(self.pick("int", "text"), 1) for _ in range(self.rnd.randrange(1, 3))]
            groups = f" GROUP BY {', '.join(keys)}"
            if not self.maybe(self.wild):
                self.scopes[-1] = []
            outs = [self.rnd.choice(keys) if self.maybe(0.5) else self.expr(kind, deep, 2) for kind in kinds]
            if self.maybe(0.3):
                having = f" HAVING {self.expr('bool', 1, 1)}"
        else:
            outs = [self.expr(kind, deep, calls) for kind in kinds]
        behind = f" ORDER BY {self.expr('int', 1, calls)}{self.pick('', ' DESC', ' NULLS FIRST')}" if order else ""
        self.scopes.pop()
        if named is not None:
            outs = [f"{out} AS {named}{at}" for at, out in enumerate(outs)]
        source = f" FROM {sources}" if sources else ""
        distinct = self.pick("", "", "", "DISTINCT ") if not order else ""
        return f"SELECT {distinct}{', '.join(outs)}{source}{where}{groups}{having}{behind}"


def query(seed, wild=0.0):
    """A random query."""
    maker = Maker(seed, wild)
    kinds = [maker.pick("int", "text", "bool") for _ in range(maker.rnd.randrange(1, 4))]
    return maker.query(maker.rnd.randrange(1, 4), kinds)
