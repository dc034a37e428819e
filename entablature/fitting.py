"""Whether plans and expressions are right but for their bounds, and the kinds that follow."""

from entablature.errors import BadKind
from entablature.operators import kind_of
from entablature.value import KINDS, is_value

MOST_ROWS = 2000
SIDES = ("inner", "left", "right", "full", "semi", "anti")
# For each agg the kind that its argument must have, or None for any, and that of its answer, or None for the same.
AGGS = {
    "count": (None, "int"), "sum": ("int", "int"), "avg": ("int", "int"),
    "min": (None, None), "max": (None, None), "every": ("bool", "bool"), "some": ("bool", "bool"),
}
COUNTED = ("place", "rank", "dense")
NEIGHBOURS = ("lag", "lead")
EDGES = ("start", "before", "here", "after", "end")


def demand(holds):
    """Refuses what does not hold."""
    if not holds:
        raise BadKind(-1)


def parts_in(x, many):
    """The parts behind the word of a tuple that must have so many of them."""
    demand(type(x) is tuple and len(x) == many + 1)
    return x[1:]


def items_in(x):
    """The parts of what must be a tuple."""
    demand(type(x) is tuple)
    return x


def word_of(x):
    """The word with which a plan or an expression begins."""
    demand(type(x) is tuple and len(x) > 0 and type(x[0]) is str)
    return x[0]


def is_count(x):
    """Whether something is a whole number from 0 on."""
    return type(x) is int and x >= 0


class Fitting:
    """Finds the kinds of plans over tables, whose schemas stand under their names."""

    def __init__(self, forms):
        self.forms = forms

    def expr(self, expr, row, outers):
        """The kind of an expression over a row of kinds."""
        word = word_of(expr)
        if word == "col":
            at = parts_in(expr, 1)[0]
            demand(is_count(at) and at < len(row))
            return row[at]
        if word == "outer":
            far, at = parts_in(expr, 2)
            demand(is_count(far) and 1 <= far <= len(outers) and is_count(at) and at < len(outers[far - 1]))
            return outers[far - 1][at]
        if word == "const":
            kind, worth = parts_in(expr, 2)
            demand(type(kind) is str and is_value(worth, kind))
            return kind
        if word == "op":
            return self.op(expr, row, outers)
        if word == "case":
            return self.case(expr, row, outers)
        return self.nested(word, expr, [row] + outers)

    def op(self, expr, row, outers):
        """The kind of an operator."""
        name, args = parts_in(expr, 2)
        demand(type(name) is str)
        kind = kind_of(name, [self.expr(arg, row, outers) for arg in items_in(args)])
        demand(kind is not None)
        return kind

    def case(self, expr, row, outers):
        """The kind of a case."""
        pairs, other = parts_in(expr, 2)
        demand(len(items_in(pairs)) > 0)
        kind = self.expr(other, row, outers)
        for pair in pairs:
            demand(len(items_in(pair)) == 2)
            demand(self.expr(pair[0], row, outers) == "bool" and self.expr(pair[1], row, outers) == kind)
        return kind

    def nested(self, word, expr, outers):
        """The kind of an expression with a plan in it; outers begins with the row of the expression."""
        if word == "exists":
            plan = parts_in(expr, 1)[0]
            self.plan(plan, outers)
            return "bool"
        if word == "scalar":
            plan = parts_in(expr, 1)[0]
            kinds = self.plan(plan, outers)
            demand(len(kinds) == 1)
            return kinds[0]
        demand(word == "in")
        left, plan = parts_in(expr, 2)
        demand(self.plan(plan, outers) == (self.expr(left, outers[0], outers[1:]),))
        return "bool"

    def plan(self, plan, outers):
        """The kinds of the columns of a plan; outers are the rows of kinds around it."""
        word = word_of(plan)
        if word == "scan":
            name = parts_in(plan, 1)[0]
            demand(type(name) is str and name in self.forms)
            return tuple([column[1] for column in self.forms[name][1]])
        if word == "rows":
            return self.rows_plan(plan)
        if word == "join":
            return self.join_plan(plan, outers)
        if word in ("union", "except", "meet"):
            left, right = parts_in(plan, 2)
            kinds = self.plan(left, outers)
            demand(self.plan(right, outers) == kinds)
            return kinds
        return self.unary(word, plan, outers)

    def unary(self, word, plan, outers):
        """The kinds of a plan with one input."""
        if word == "distinct":
            below = parts_in(plan, 1)[0]
            return self.plan(below, outers)
        if word == "where":
            cond, below = parts_in(plan, 2)
            row = self.plan(below, outers)
            demand(self.expr(cond, row, outers) == "bool")
            return row
        if word == "select":
            exprs, below = parts_in(plan, 2)
            row = self.plan(below, outers)
            return tuple([self.expr(expr, row, outers) for expr in items_in(exprs)])
        if word == "group":
            keys, aggs, below = parts_in(plan, 3)
            row = self.plan(below, outers)
            told = [self.expr(key, row, outers) for key in items_in(keys)]
            return tuple(told + [self.agg(agg, row, outers) for agg in items_in(aggs)])
        if word == "window":
            funs, below = parts_in(plan, 2)
            row = self.plan(below, outers)
            return row + tuple([self.fun(fun, row, outers) for fun in items_in(funs)])
        demand(word == "top")
        order, limit, offset, below = parts_in(plan, 4)
        row = self.plan(below, outers)
        self.order(order, row, outers)
        demand((limit is None or is_count(limit)) and is_count(offset))
        return row

    def rows_plan(self, plan):
        """The kinds of a plan of rows."""
        kinds, rows = parts_in(plan, 2)
        demand(all([type(kind) is str and kind in KINDS for kind in items_in(kinds)]))
        demand(len(items_in(rows)) <= MOST_ROWS)
        for row in rows:
            demand(len(items_in(row)) == len(kinds))
            demand(all([is_value(x, kind) for x, kind in zip(row, kinds)]))
        return kinds

    def join_plan(self, plan, outers):
        """The kinds of a join."""
        side, cond, left, right = parts_in(plan, 4)
        demand(type(side) is str and side in SIDES)
        first = self.plan(left, outers)
        both = first + self.plan(right, outers)
        demand(self.expr(cond, both, outers) == "bool")
        return first if side in ("semi", "anti") else both

    def agg_kind(self, name, arg, row, outers):
        """The kind of what an agg with an argument tells."""
        demand(type(name) is str and name in AGGS)
        takes, tells = AGGS[name]
        kind = self.expr(arg, row, outers)
        demand(takes is None or takes == kind)
        return tells or kind

    def agg(self, agg, row, outers):
        """The kind of an agg of a group."""
        demand(len(items_in(agg)) == 3)
        name, distinct, arg = agg
        demand(type(distinct) is bool)
        if type(name) is str and name == "rows":
            demand(not distinct and arg is None)
            return "int"
        return self.agg_kind(name, arg, row, outers)

    def fun(self, fun, row, outers):
        """The kind of a function of a window."""
        demand(len(items_in(fun)) == 5)
        name, arg, partition, order, frame = fun
        demand(type(name) is str)
        kind = "int"
        if name in COUNTED or name == "rows":
            demand(arg is None)
        elif name in NEIGHBOURS:
            kind = self.expr(arg, row, outers)
        else:
            kind = self.agg_kind(name, arg, row, outers)
        for expr in items_in(partition):
            self.expr(expr, row, outers)
        self.order(order, row, outers)
        if frame is not None:
            demand(name not in COUNTED and name not in NEIGHBOURS)
            demand(len(items_in(frame)) == 2 and is_edge(frame[0]) and is_edge(frame[1]))
        return kind

    def order(self, order, row, outers):
        """Refuses what is no order."""
        for item in items_in(order):
            demand(len(items_in(item)) == 3)
            self.expr(item[0], row, outers)
            demand(type(item[1]) is bool and type(item[2]) is bool)


def is_edge(x):
    """Whether something is an edge of a frame."""
    return type(x) is tuple and len(x) == 2 and type(x[0]) is str and x[0] in EDGES and is_count(x[1])
