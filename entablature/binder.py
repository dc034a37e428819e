"""Turns the trees of queries into plans."""

from entablature.errors import BadKind, BadName, TooMuch
from entablature.limits import check_bounds, widths_of
from entablature.scope import Around, Base, Scope
from entablature.selects import Select
from entablature.sources import ONE_ROW, Known
from entablature.typed import INT, bound_whole, is_null

SETS = {"union": "union", "except": "except", "intersect": "meet"}


class Binder:
    """The work of binding one query, with all queries in it."""

    def __init__(self, schemas):
        self.forms = {schema[0]: schema for schema in schemas}
        self.widths = widths_of(schemas)
        self.scopes = 0
        # Pairs of a scope that groups and the place of a name of it that no key covers so far.
        self.left = []

    def scope(self, bases):
        """A scope of some sources."""
        self.scopes += 1
        return Scope(self.scopes, bases, False)

    def mark(self):
        """How many names are not covered so far."""
        return len(self.left)

    def leave(self, number, at):
        """A name of a scope is not covered so far."""
        self.left.append((number, at))

    def cover(self, mark, number):
        """The names of a scope that came behind the mark are covered."""
        self.left = self.left[:mark] + [pair for pair in self.left[mark:] if pair[0] != number]

    def check_covered(self, mark, number):
        """Refuses the first name of a scope that came behind the mark."""
        for scope, at in self.left[mark:]:
            if scope == number:
                raise BadName(at)

    def check(self, plan):
        """Refuses a plan that is beyond the bounds."""
        check_bounds(plan, self.widths)

    def scan(self, name, at):
        """A table: its plan, the names and the kinds of its columns."""
        if name not in self.forms:
            raise BadName(at)
        columns = self.forms[name][1]
        return ("scan", name), [column[0] for column in columns], [column[1] for column in columns]

    def nested(self, around, tree):
        """A query within what is around it: its plan, names and kinds."""
        return self.query(Around(self.with_ctes(around, tree[1]), around.scopes), tree)

    def with_ctes(self, around, ctes):
        """The named queries around, and those in front of a query."""
        known = dict(around.known)
        new = {}
        for name, tree, at in ctes:
            if name in new:
                raise BadName(at)
            new[name] = True
            plan, names, kinds = self.nested(Around(dict(known), around.scopes), tree)
            known[name] = Known(plan, names, kinds, len(around.scopes))
        return known

    def query(self, around, tree):
        """A query behind its WITH."""
        body, items, limit, offset = tree[2:6]
        extra = 0
        if body[0] == "select" and not body[1]:
            select = Select(self, around, body)
            terms = select.bind([item[0] for item in items])
            names, kinds = select.names, select.told
            order = select.ordered(items, terms)
            plan = ("select", tuple(select.exprs), select.plan)
            extra = len(select.exprs) - len(names)
        else:
            plan, names, kinds = self.body(around, body)
            order = self.ordered(around, items, names, kinds)
        if order or limit is not None or offset > 0:
            plan = ("top", order, limit, offset, plan)
        if extra:
            plan = ("select", tuple([("col", at) for at in range(len(names))]), plan)
        self.check(plan)
        return plan, names, kinds

    def ordered(self, around, items, names, kinds):
        """ORDER BY where only names of outs may stand."""
        self.scopes += 1
        outs = Scope(self.scopes, [Base(None, names, kinds)], True)
        inside = Around(around.known, [outs] + around.scopes)
        return tuple([(bound_whole(self, inside, item[0], None)[0], item[1], item[2]) for item in items])

    def body(self, around, body):
        """A body: its plan, names and kinds."""
        word = body[0]
        if word == "query":
            return self.nested(around, body)
        if word == "values":
            return self.values_body(around, body[1])
        if word == "set":
            return self.set_body(around, body)
        select = Select(self, around, body)
        select.bind([])
        plan = ("select", tuple(select.exprs), select.plan)
        if body[1]:
            plan = ("distinct", plan)
        return plan, select.names, select.told

    def set_body(self, around, body):
        """UNION, EXCEPT or INTERSECT."""
        _, name, every, left, right, _ = body
        first, names, kinds = self.body(around, left)
        second, _, others = self.body(around, right)
        if others != kinds:
            raise BadKind(right[-1])
        if name == "union":
            plan = ("union", first, second)
            return plan if every else ("distinct", plan), names, kinds
        if not every:
            first, second = ("distinct", first), ("distinct", second)
        return (SETS[name], first, second), names, kinds

    def values_body(self, around, rows):
        """VALUES."""
        for row in rows:
            if len(row) != len(rows[0]):
                raise BadKind(row[0][-1])
        inside = Around(around.known, [self.scope([])] + around.scopes)
        kinds = [None for _ in rows[0]]
        found = []
        for row in rows:
            exprs = []
            for at, expr in enumerate(row):
                if is_null(expr):
                    exprs.append(None)
                    continue
                raw, kind = bound_whole(self, inside, expr, kinds[at])
                kinds[at] = kind
                exprs.append(raw)
            found.append(exprs)
        kinds = [kind or INT for kind in kinds]
        names = [f"c{at + 1}" for at in range(len(kinds))]
        if all([is_literal(expr) for row in rows for expr in row]):
            return ("rows", tuple(kinds), tuple([literals(row) for row in rows])), names, kinds
        return selects_of(found, kinds), names, kinds


def is_negative(expr):
    """Whether an expression is a minus before a number."""
    return expr[0] == "op" and expr[1] == "neg" and expr[2][0][0] == "lit" and type(expr[2][0][1]) is int


def is_literal(expr):
    """Whether an expression is a literal or a minus before a number."""
    return expr[0] == "lit" or is_negative(expr)


def literals(row):
    """The values of a row of literals."""
    return tuple([-expr[2][0][1] if is_negative(expr) else expr[1] for expr in row])


def selects_of(rows, kinds):
    """A union of selects, one for each row of bound expressions; null literals stand there as None."""
    plan = None
    for row in rows:
        exprs = [("const", kind, None) if expr is None else expr for expr, kind in zip(row, kinds)]
        part = ("select", tuple(exprs), ONE_ROW)
        plan = part if plan is None else ("union", plan, part)
    return plan


def bind(tree, schemas):
    """The plan of a query, and the names of its columns."""
    plan, names, _ = bound_with(tree, schemas, {})
    return plan, names


def bound_with(tree, schemas, known):
    """The plan of a query, the names and the kinds of its columns; known has queries that stand under a name."""
    work = Binder(schemas)
    try:
        plan, names, kinds = work.nested(Around(known, []), tree)
    except (BadName, BadKind, TooMuch):
        # A name that no key covers stands ahead of any mistake that is found while it is still uncovered.
        if work.left:
            raise BadName(work.left[0][1]) from None
        raise
    return plan, tuple(names), tuple(kinds)
