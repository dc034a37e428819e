"""The parts of plans and of their expressions, and plans and expressions put together anew out of parts."""

UNARY = ("where", "select", "group", "distinct", "window", "top")
BINARY = ("union", "except", "meet")
PLANS = (
    "where", "select", "group", "distinct", "window", "top", "union", "except", "meet", "scan", "rows", "join",
)
EXPRS = ("col", "outer", "const", "op", "case", "scalar", "exists", "in")


def fun_exprs(fun):
    """The expressions of a function of a window, or of an agg in its form."""
    found = [] if fun[1] is None else [fun[1]]
    return found + list(fun[2]) + [item[0] for item in fun[3]]


def exprs_of(plan):
    """The expressions that stand in a plan itself, in the order in which they are written."""
    word = plan[0]
    if word == "where":
        return [plan[1]]
    if word == "select":
        return list(plan[1])
    if word == "join":
        return [plan[2]]
    if word == "group":
        return list(plan[1]) + [agg[2] for agg in plan[2] if agg[2] is not None]
    if word == "window":
        return [expr for fun in plan[1] for expr in fun_exprs(fun)]
    if word == "top":
        return [item[0] for item in plan[1]]
    return []


def inputs_of(plan):
    """The plans that a plan has for its inputs."""
    word = plan[0]
    if word == "join":
        return [plan[3], plan[4]]
    if word in BINARY:
        return [plan[1], plan[2]]
    if word in UNARY:
        return [plan[-1]]
    return []


def width_over(plan, inputs):
    """How many columns a plan that is no scan has, if its inputs have so many."""
    word = plan[0]
    if word in ("rows", "select"):
        return len(plan[1])
    if word == "group":
        return len(plan[1]) + len(plan[2])
    if word == "window":
        return inputs[0] + len(plan[1])
    if word == "join" and plan[1] not in ("semi", "anti"):
        return inputs[0] + inputs[1]
    return inputs[0]


def new_items(items, exprs):
    """Items of an order with other expressions."""
    return tuple([(expr, item[1], item[2]) for item, expr in zip(items, exprs)])


def new_aggs(aggs, exprs):
    """Aggs with other arguments."""
    found = []
    at = 0
    for name, distinct, arg in aggs:
        if arg is None:
            found.append((name, distinct, None))
        else:
            found.append((name, distinct, exprs[at]))
            at += 1
    return tuple(found)


def new_funs(funs, exprs):
    """Functions of a window with other expressions."""
    found = []
    at = 0
    for name, arg, partition, order, frame in funs:
        if arg is not None:
            arg = exprs[at]
            at += 1
        behind = at + len(partition)
        end = behind + len(order)
        found.append((name, arg, tuple(exprs[at:behind]), new_items(order, exprs[behind:end]), frame))
        at = end
    return tuple(found)


def with_parts(plan, exprs, inputs):
    """A plan with other expressions and other inputs, as many as it has."""
    word = plan[0]
    if word == "where":
        return ("where", exprs[0], inputs[0])
    if word == "select":
        return ("select", tuple(exprs), inputs[0])
    if word == "join":
        return ("join", plan[1], exprs[0], inputs[0], inputs[1])
    if word == "group":
        many = len(plan[1])
        return ("group", tuple(exprs[:many]), new_aggs(plan[2], exprs[many:]), inputs[0])
    if word == "distinct":
        return ("distinct", inputs[0])
    if word in BINARY:
        return (word, inputs[0], inputs[1])
    if word == "window":
        return ("window", new_funs(plan[1], exprs), inputs[0])
    if word == "top":
        return ("top", new_items(plan[1], exprs), plan[2], plan[3], inputs[0])
    return plan


def with_input(plan, at, below):
    """A plan with another plan for its input at a place."""
    if plan[0] == "join":
        return plan[:3 + at] + (below,) + plan[4 + at:]
    if plan[0] in BINARY:
        return plan[:1 + at] + (below,) + plan[2 + at:]
    return plan[:-1] + (below,)


def args_of(expr):
    """The expressions that stand in an expression itself, in the order in which they are written."""
    word = expr[0]
    if word == "op":
        return list(expr[2])
    if word == "case":
        return [part for pair in expr[1] for part in pair] + [expr[2]]
    if word == "in":
        return [expr[1]]
    return []


def plans_of(expr):
    """The plans that stand in an expression itself: one or none."""
    if expr[0] in ("scalar", "exists"):
        return [expr[1]]
    if expr[0] == "in":
        return [expr[2]]
    return []


def with_args(expr, args, plans):
    """An expression with other expressions and other plans in it, as many as it has."""
    word = expr[0]
    if word == "op":
        return ("op", expr[1], tuple(args))
    if word == "case":
        pairs = [(args[at], args[at + 1]) for at in range(0, len(args) - 1, 2)]
        return ("case", tuple(pairs), args[-1])
    if word == "in":
        return ("in", args[0], plans[0])
    if word in ("scalar", "exists"):
        return (word, plans[0])
    return expr


def gather_tables(plan, found):
    """Counts the scans of each table in a plan, in plans in expressions too, in a dict."""
    if plan[0] == "scan":
        found[plan[1]] = found.get(plan[1], 0) + 1
    for expr in exprs_of(plan):
        gather_expr_tables(expr, found)
    for below in inputs_of(plan):
        gather_tables(below, found)


def gather_expr_tables(expr, found):
    """The same for an expression."""
    for arg in args_of(expr):
        gather_expr_tables(arg, found)
    for plan in plans_of(expr):
        gather_tables(plan, found)


def scans_of(plan):
    """For each table that a plan scans, in plans in expressions too, how often it does."""
    found = {}
    gather_tables(plan, found)
    return found


def tables_of(plan):
    """The tables that a plan scans, in plans in expressions too, in rising order."""
    return tuple(sorted(scans_of(plan)))


def expr_changed(expr, level, change):
    """An expression in which change(leaf, level) stands for each column and each outer column.

    The level is 0 in the expression itself, 1 in the plans in it, 2 in those in their expressions, and so on.
    """
    if expr[0] in ("col", "outer"):
        return change(expr, level)
    args = [expr_changed(arg, level, change) for arg in args_of(expr)]
    plans = [plan_changed(plan, level + 1, change) for plan in plans_of(expr)]
    return with_args(expr, args, plans)


def plan_changed(plan, level, change):
    """The same for a plan whose expressions are at a level."""
    exprs = [expr_changed(expr, level, change) for expr in exprs_of(plan)]
    inputs = [plan_changed(below, level, change) for below in inputs_of(plan)]
    return with_parts(plan, exprs, inputs)


def gather_leaves(expr, level, found):
    """Puts pairs of a column or an outer column and its level behind a list."""
    if expr[0] in ("col", "outer"):
        found.append((expr, level))
    for arg in args_of(expr):
        gather_leaves(arg, level, found)
    for plan in plans_of(expr):
        gather_plan_leaves(plan, level + 1, found)


def gather_plan_leaves(plan, level, found):
    """The same for a plan whose expressions are at a level."""
    for expr in exprs_of(plan):
        gather_leaves(expr, level, found)
    for below in inputs_of(plan):
        gather_plan_leaves(below, level, found)
