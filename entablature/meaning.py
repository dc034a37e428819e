"""What plans and expressions mean: their rows and values on tables, worked out straight from the document."""

from entablature.aggregate import aggregated, different
from entablature.branches import args_of, exprs_of, gather_plan_leaves, inputs_of, plans_of, width_over
from entablature.branches import with_args, with_parts
from entablature.operators import worked
from entablature.sorting import ranked
from entablature.value import MANY, fault, is_fault, least_fault, sorted_rows
from entablature.windows import part_values, peer_groups


class Ground:
    """What plans are worked out on: the tables, and what is known so far of the plans in expressions.

    A plan in an expression is numbered, and told with the columns of the rows around that it uses, so that
    it is worked out once for all rows that have the same values there.
    """

    def __init__(self, tables):
        self.tables = tables
        self.known = {}
        self.many = 0

    def expr(self, expr):
        """An expression with the plans in it numbered."""
        args = [self.expr(arg) for arg in args_of(expr)]
        plans = plans_of(expr)
        told = with_args(expr, args, [self.plan(plan) for plan in plans])
        if not plans:
            return told
        self.many += 1
        return told + (self.many, outside(plans[0]))

    def plan(self, plan):
        """A plan with the plans in its expressions numbered."""
        exprs = [self.expr(expr) for expr in exprs_of(plan)]
        return with_parts(plan, exprs, [self.plan(below) for below in inputs_of(plan)])


def outside(plan):
    """The columns of the rows around that a plan in an expression uses: how far out, and which column."""
    leaves = []
    gather_plan_leaves(plan, 1, leaves)
    found = {}
    for leaf, level in leaves:
        if leaf[0] == "outer" and leaf[1] >= level:
            found[(leaf[1] - level, leaf[2])] = True
    return tuple(found)


def value(expr, row, outers, ground):
    """The value or fault of a numbered expression."""
    word = expr[0]
    if word == "col":
        return row[expr[1]]
    if word == "const":
        return expr[2]
    if word == "op":
        return worked(expr[1], tuple([value(arg, row, outers, ground) for arg in expr[2]]))
    if word == "outer":
        return outers[expr[1] - 1][expr[2]]
    if word == "case":
        return case_value(expr, row, outers, ground)
    return nested_value(expr, row, outers, ground)


def case_value(expr, row, outers, ground):
    """The value of a case."""
    for cond, worth in expr[1]:
        told = value(cond, row, outers, ground)
        if told is True:
            return value(worth, row, outers, ground)
        if is_fault(told):
            return told
    return value(expr[2], row, outers, ground)


def nested_value(expr, row, outers, ground):
    """The value of an expression with a plan in it."""
    around = [row] + outers
    word, plan = expr[0], expr[-3]
    key = (expr[-2],) + tuple([around[far][at] for far, at in expr[-1]])
    if key not in ground.known:
        ground.known[key] = rows_of(plan, around, ground)
    rows = ground.known[key]
    if is_fault(rows):
        return rows
    if word == "exists":
        return len(rows) > 0
    if word == "in":
        left = value(expr[1], row, outers, ground)
        return found_among(left, rows)
    if len(rows) > 1:
        return fault(MANY)
    return rows[0][0] if rows else None


def found_among(left, rows):
    """The "or" of "eq" of a value and the only value of each row."""
    told = False
    for row in rows:
        told = worked("or", (told, worked("eq", (left, row[0]))))
        if told is True:
            break
    return told


def values_of(exprs, rows, outers, ground):
    """For each expression the list of its values for the rows."""
    return [[value(expr, row, outers, ground) for row in rows] for expr in exprs]


def fault_in(lists):
    """The least fault in lists, or None."""
    return least_fault([x for part in lists for x in part])


def rows_of(plan, outers, ground):
    """The rows of a numbered plan, or the fault with which it fails."""
    word = plan[0]
    inputs = [rows_of(below, outers, ground) for below in inputs_of(plan)]
    failed = least_fault(inputs)
    if failed is not None:
        return failed
    if word == "scan":
        return [tuple(row) for row in ground.tables[plan[1]][1]]
    if word == "rows":
        return list(plan[2])
    if word == "where":
        return kept_rows(plan[1], inputs[0], outers, ground)
    if word == "select":
        return [tuple([value(expr, row, outers, ground) for expr in plan[1]]) for row in inputs[0]]
    if word == "join":
        return joined_rows(plan, inputs[0], inputs[1], outers, ground)
    if word == "group":
        return grouped_rows(plan, inputs[0], outers, ground)
    if word == "union":
        return inputs[0] + inputs[1]
    if word == "window":
        return window_rows(plan, inputs[0], outers, ground)
    if word == "top":
        return top_rows(plan, inputs[0], outers, ground)
    failed = fault_in([row for rows in inputs for row in rows])
    if failed is not None:
        return failed
    if word == "distinct":
        return different(inputs[0])
    return compared_rows(word == "meet", inputs[0], inputs[1])


def kept_rows(cond, rows, outers, ground):
    """The rows for which a condition is True."""
    told = [value(cond, row, outers, ground) for row in rows]
    failed = least_fault(told)
    if failed is not None:
        return failed
    return [row for row, truth in zip(rows, told) if truth is True]


def joined_rows(plan, left, right, outers, ground):
    """The rows of a join."""
    side, cond = plan[1], plan[2]
    told = [[value(cond, row + other, outers, ground) for other in right] for row in left]
    failed = fault_in(told)
    if failed is not None:
        return failed
    if side in ("semi", "anti"):
        return [row for row, truths in zip(left, told) if (True in truths) == (side == "semi")]
    found = []
    for row, truths in zip(left, told):
        found.extend([row + other for other, truth in zip(right, truths) if truth is True])
    if side in ("left", "full"):
        nulls = (None,) * width_of(plan[4], ground)
        found.extend([row + nulls for row, truths in zip(left, told) if True not in truths])
    if side in ("right", "full"):
        nulls = (None,) * width_of(plan[3], ground)
        for at, other in enumerate(right):
            if True not in [truths[at] for truths in told]:
                found.append(nulls + other)
    return found


def width_of(plan, ground):
    """The number of columns of a plan."""
    if plan[0] == "scan":
        return len(ground.tables[plan[1]][0][1])
    return width_over(plan, [width_of(below, ground) for below in inputs_of(plan)])


def grouped_rows(plan, rows, outers, ground):
    """The rows of a group."""
    keys, aggs = plan[1], plan[2]
    lines = [tuple([value(key, row, outers, ground) for key in keys]) for row in rows]
    failed = fault_in(lines)
    if failed is not None:
        return failed
    groups = {}
    if not keys:
        groups[()] = []
    for line, row in zip(lines, rows):
        groups.setdefault(line, []).append(row)
    found = []
    for line, members in groups.items():
        found.append(line + tuple([agg_value(agg, members, outers, ground) for agg in aggs]))
    return found


def agg_value(agg, rows, outers, ground):
    """What an agg tells of the rows of a group."""
    name, distinct, arg = agg
    if arg is None:
        return aggregated(name, distinct, rows)
    return aggregated(name, distinct, [value(arg, row, outers, ground) for row in rows])


def compared_rows(is_meet, left, right):
    """The rows that left has more often than right, or those that both have."""
    counts = {}
    for row in right:
        counts[row] = counts.get(row, 0) + 1
    found = []
    for row in left:
        is_there = counts.get(row, 0) > 0
        if is_there:
            counts[row] -= 1
        if is_there == is_meet:
            found.append(row)
    return found


def window_rows(plan, rows, outers, ground):
    """The rows of a window."""
    rows = sorted_rows(rows)
    parts = [values_of(fun[2], rows, outers, ground) for fun in plan[1]]
    orders = [values_of([item[0] for item in fun[3]], rows, outers, ground) for fun in plan[1]]
    failed = fault_in(rows + [column for columns in parts + orders for column in columns])
    if failed is not None:
        return failed
    told = []
    for fun, part, order in zip(plan[1], parts, orders):
        args = list(rows)
        if fun[1] is not None:
            args = [value(fun[1], row, outers, ground) for row in rows]
        told.append(fun_values(fun, part, order, args))
    return [row + tuple([column[at] for column in told]) for at, row in enumerate(rows)]


def fun_values(fun, part, order, args):
    """What a function tells for each row; the rows stand in their order, so that equal ones keep one order."""
    groups = {}
    for at in range(len(args)):
        groups.setdefault(tuple([column[at] for column in part]), []).append(at)
    told = [None for _ in args]
    for members in groups.values():
        places = ranked(members, order, fun[3])
        found = part_values(fun, [args[place] for place in places], peer_groups(places, order))
        for place, x in zip(places, found):
            told[place] = x
    return told


def top_rows(plan, rows, outers, ground):
    """The rows of a top, in its order."""
    _, items, limit, offset, _ = plan
    rows = sorted_rows(rows)
    columns = values_of([item[0] for item in items], rows, outers, ground)
    failed = fault_in(rows + columns)
    if failed is not None:
        return failed
    found = [rows[place] for place in ranked(list(range(len(rows))), columns, items)][offset:]
    return found if limit is None else found[:limit]


def has_order(plan):
    """Whether the rows of a plan stand in an order."""
    while plan[0] == "select":
        plan = plan[2]
    return plan[0] == "top"


def bag(plan, outers, tables):
    """The rows of a plan, or the fault with which it fails."""
    ground = Ground(tables)
    return rows_of(ground.plan(plan), list(outers), ground)


def value_of(expr, row, outers, tables):
    """The value or fault of an expression for a row."""
    ground = Ground(tables)
    return value(ground.expr(expr), row, list(outers), ground)


def answer(plan, tables):
    """The answer of a plan: its rows, or a fault."""
    rows = bag(plan, [], tables)
    if is_fault(rows):
        return rows
    failed = fault_in(rows)
    if failed is not None:
        return failed
    return rows if has_order(plan) else sorted_rows(rows)
