"""Plans: their kinds, their nodes and their columns."""

from entablature.branches import EXPRS, PLANS, args_of, expr_changed, exprs_of, gather_leaves, inputs_of, plans_of
from entablature.errors import NoSuch, TooMuch
from entablature.fitting import Fitting
from entablature.limits import check_bounds, widths_of

MOST_WORDS = 100
MOST_TUPLES = 50000
ALWAYS = ("const", "bool", True)


def is_listing(x):
    """Whether a tuple is a plan of rows, or of that form; what is in it is not looked at."""
    return x[0] == "rows" and len(x) <= 3


def check_outside(plan, forms):
    """Refuses scans of tables that are not there, and what is too deep or too large to be looked at.

    What is handed in may be nested as deep as anybody likes, so this goes without calls within calls.
    """
    many = 0
    too_deep = False
    left = [(plan, 0)]
    while left:
        x, deep = left.pop()
        many += 1
        if many > MOST_TUPLES:
            raise TooMuch()
        if len(x) == 0:
            continue
        if type(x[0]) is str:
            if x[0] == "scan" and len(x) == 2 and type(x[1]) is str and x[1] not in forms:
                raise NoSuch()
            if x[0] in PLANS or x[0] in EXPRS:
                deep += 1
                too_deep = too_deep or deep > MOST_WORDS
            if is_listing(x):
                continue
        for part in x:
            if type(part) is tuple:
                left.append((part, deep))
    if too_deep:
        raise TooMuch()


def kinds(plan, schemas):
    """The kinds of the columns of a plan that is right for the schemas."""
    forms = {schema[0]: schema for schema in schemas}
    if type(plan) is tuple:
        check_outside(plan, forms)
    told = Fitting(forms).plan(plan, [])
    check_bounds(plan, widths_of(schemas))
    return told


def expr_nodes(expr):
    """The number of nodes of an expression."""
    below = [expr_nodes(arg) for arg in args_of(expr)] + [nodes(plan) for plan in plans_of(expr)]
    return 1 + sum(below)


def nodes(plan):
    """The number of plans and expressions in a plan, itself among them."""
    below = [expr_nodes(expr) for expr in exprs_of(plan)] + [nodes(part) for part in inputs_of(plan)]
    return 1 + sum(below)


def used(expr):
    """The columns of its own row that an expression uses."""
    leaves = []
    gather_leaves(expr, 0, leaves)
    found = {}
    for leaf, level in leaves:
        if leaf[0] == "col" and level == 0:
            found[leaf[1]] = True
        if leaf[0] == "outer" and leaf[1] == level:
            found[leaf[2]] = True
    return tuple(sorted(found))


def carried(expr, far):
    """An expression that means the same so many levels further in."""
    if far == 0:
        return expr
    return expr_changed(expr, 0, lambda leaf, level: carried_leaf(leaf, level, far))


def carried_leaf(leaf, level, far):
    """The same for a column: one of a row that lies outside of the expression is further out now."""
    if leaf[0] == "outer":
        return ("outer", leaf[1] + far, leaf[2]) if leaf[1] >= level else leaf
    return ("outer", far, leaf[1]) if level == 0 else leaf


def put_leaf(leaf, level, exprs):
    """What stands for a column where expressions are put in its place."""
    if leaf[0] == "col" and level == 0:
        return exprs[leaf[1]]
    if leaf[0] == "outer" and leaf[1] == level:
        return carried(exprs[leaf[2]], level)
    return leaf


def put_in(expr, exprs):
    """The expression with expressions in the place of the columns of its row."""
    return expr_changed(expr, 0, lambda leaf, level: put_leaf(leaf, level, exprs))


def moved(expr, places):
    """The expression with other columns in the place of those of its row."""
    return put_in(expr, [("col", place) for place in places])


def parts(cond):
    """The parts of an "and", from the left; any other condition is its own part."""
    found = []
    left = [cond]
    while left:
        part = left.pop()
        if part[0] == "op" and part[1] == "and":
            left.append(part[2][1])
            left.append(part[2][0])
        else:
            found.append(part)
    return found


def joined(conds):
    """One condition that is True where all are."""
    if not conds:
        return ALWAYS
    cond = conds[0]
    for other in conds[1:]:
        cond = ("op", "and", (cond, other))
    return cond
