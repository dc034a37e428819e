"""What is known of a plan for all tables that fit the schemas and keep their keys."""

from entablature.branches import args_of, inputs_of
from entablature.operators import is_strict, may_fault
from entablature.plan import parts
from entablature.unique import ChosenKeys, JoinedKeys, OwnKeys

NEVER_NULL = ("same", "isnull")
NUMBERED = ("place", "rank", "dense", "rows")


class Facts:
    """The facts of a plan: of each column whether it may be null or a fault, whether it may fail, and its keys."""

    def __init__(self, nulls, faults, fails, unique):
        self.nulls = nulls
        self.faults = faults
        self.fails = fails
        self.unique = unique

    def row(self):
        """What is known of a row: of each column whether it may be null, and whether it may be a fault."""
        return (self.nulls, self.faults)


def safe(expr, faults):
    """Whether an expression is never a fault, if only some columns may be faults."""
    word = expr[0]
    if word == "col":
        return not faults[expr[1]]
    if word == "const":
        return True
    if word == "op" and may_fault(expr[1]):
        return False
    if word in ("op", "case"):
        return all([safe(arg, faults) for arg in args_of(expr)])
    return False


def eq_columns(cond, many):
    """The pairs of a left and a right column that parts of a condition say to be equal, with many left columns."""
    found = []
    for part in parts(cond):
        if part[0] != "op" or part[1] != "eq" or part[2][0][0] != "col" or part[2][1][0] != "col":
            continue
        low, high = sorted([part[2][0][1], part[2][1][1]])
        if low < many <= high:
            found.append((low, high - many))
    return found


def has_key_in(unique, columns):
    """Whether a key lies within some columns."""
    return unique.holds({at: True for at in columns})


def join_keys(side, cond, left, right):
    """The keys of a join."""
    if side in ("semi", "anti"):
        return left.unique
    if side not in ("inner", "left"):
        return OwnKeys([])
    many = len(left.nulls)
    pairs = eq_columns(cond, many)
    is_left_key = has_key_in(right.unique, [pair[1] for pair in pairs])
    is_right_key = side == "inner" and has_key_in(left.unique, [pair[0] for pair in pairs])
    return JoinedKeys(left.unique, right.unique, many, is_left_key, is_right_key)


def select_keys(exprs, unique):
    """The keys of a select over a plan with such keys."""
    places = {}
    for at, expr in enumerate(exprs):
        if expr[0] == "col" and expr[1] not in places:
            places[expr[1]] = at
    return ChosenKeys(unique, places)


def op_facts(name, args):
    """Whether an operator may be null, and whether it may be a fault, from the same of its arguments."""
    fault = may_fault(name) or any([arg[1] for arg in args])
    if name in NEVER_NULL:
        return False, fault
    if name == "coalesce":
        return args[0][0] and args[1][0], fault
    if is_strict(name) or name in ("and", "or"):
        return any([arg[0] for arg in args]), fault
    return True, fault


class Knowing:
    """Finds the facts of plans and expressions over tables, whose schemas stand under their names.

    around tells what is known of the rows: first that of the expression's own row, then those of the queries
    around. What lies further out may be anything.
    """

    def __init__(self, forms):
        self.forms = forms

    def expr(self, expr, around):
        """Whether an expression may be null, and whether it may be a fault."""
        word = expr[0]
        if word == "const":
            return expr[2] is None, False
        if word == "col":
            return around[0][0][expr[1]], around[0][1][expr[1]]
        if word == "outer":
            if expr[1] >= len(around):
                return True, True
            return around[expr[1]][0][expr[2]], around[expr[1]][1][expr[2]]
        if word == "op":
            return op_facts(expr[1], [self.expr(arg, around) for arg in expr[2]])
        if word == "case":
            told = [self.expr(arg, around) for arg in args_of(expr)]
            worths = told[1::2] + [told[-1]]
            return any([worth[0] for worth in worths]), any([one[1] for one in told])
        return self.nested(expr, around)

    def nested(self, expr, around):
        """The same for an expression with a plan in it."""
        known = self.plan(expr[-1], around)
        if expr[0] == "exists":
            return False, known.fails
        if expr[0] == "in":
            return True, known.fails or known.faults[0] or self.expr(expr[1], around)[1]
        return True, known.fails or known.faults[0] or not known.unique.holds({})

    def faulty(self, exprs, around):
        """Whether one of several expressions may be a fault."""
        return any([self.expr(expr, around)[1] for expr in exprs])

    def plan(self, plan, around):
        """The facts of a plan; around tells of the rows of the queries around it."""
        return self.over(plan, [self.plan(below, around) for below in inputs_of(plan)], around)

    def over(self, plan, below, around):
        """The facts of a plan over inputs with such facts."""
        word = plan[0]
        if word == "scan":
            form = self.forms[plan[1]]
            nulls = tuple([column[2] for column in form[1]])
            return Facts(nulls, (False,) * len(nulls), False, OwnKeys(list(form[2])))
        if word == "rows":
            nulls = [any([row[at] is None for row in plan[2]]) for at in range(len(plan[1]))]
            return Facts(tuple(nulls), (False,) * len(nulls), False, OwnKeys([]))
        if word == "join":
            return self.join(plan, below[0], below[1], around)
        if word in ("union", "except", "meet"):
            return self.both(word, below[0], below[1])
        known = below[0]
        if word == "where":
            fails = known.fails or self.expr(plan[1], [known.row()] + around)[1]
            return Facts(known.nulls, known.faults, fails, known.unique)
        if word == "select":
            told = [self.expr(expr, [known.row()] + around) for expr in plan[1]]
            nulls = tuple([one[0] for one in told])
            return Facts(nulls, tuple([one[1] for one in told]), known.fails, select_keys(plan[1], known.unique))
        if word == "group":
            return self.group(plan, known, around)
        return self.whole(plan, known, around)

    def whole(self, plan, known, around):
        """The facts of a plan that fails as soon as a value of its input is a fault."""
        fails = known.fails or any(known.faults)
        none = (False,) * len(known.nulls)
        row = (known.nulls, none)
        if plan[0] == "distinct":
            return Facts(known.nulls, none, fails, OwnKeys([tuple(range(len(none)))], known.unique))
        if plan[0] == "top":
            fails = fails or self.faulty([item[0] for item in plan[1]], [row] + around)
            return Facts(known.nulls, none, fails, known.unique)
        told = []
        for name, arg, partition, order, _ in plan[1]:
            fails = fails or self.faulty(list(partition) + [item[0] for item in order], [row] + around)
            told.append(self.agg_facts(name, arg, [row] + around))
        nulls = known.nulls + tuple([one[0] for one in told])
        return Facts(nulls, none + tuple([one[1] for one in told]), fails, known.unique)

    def agg_facts(self, name, arg, around):
        """Whether what an agg or a function of a window tells may be null, and whether it may be a fault."""
        if name in NUMBERED:
            return False, False
        return name != "count", name == "sum" or self.expr(arg, around)[1]

    def group(self, plan, known, around):
        """The facts of a group."""
        inside = [known.row()] + around
        lines = [self.expr(key, inside) for key in plan[1]]
        told = [self.agg_facts(agg[0], agg[2], inside) for agg in plan[2]]
        nulls = tuple([one[0] for one in lines + told])
        faults = (False,) * len(lines) + tuple([one[1] for one in told])
        fails = known.fails or any([line[1] for line in lines])
        return Facts(nulls, faults, fails, OwnKeys([tuple(range(len(lines)))]))

    def join(self, plan, left, right, around):
        """The facts of a join."""
        side, cond = plan[1], plan[2]
        row = (left.nulls + right.nulls, left.faults + right.faults)
        fails = left.fails or right.fails or self.expr(cond, [row] + around)[1]
        unique = join_keys(side, cond, left, right)
        if side in ("semi", "anti"):
            return Facts(left.nulls, left.faults, fails, unique)
        first, second = left.nulls, right.nulls
        if side in ("right", "full"):
            first = (True,) * len(first)
        if side in ("left", "full"):
            second = (True,) * len(second)
        return Facts(first + second, row[1], fails, unique)

    def both(self, word, left, right):
        """The facts of a union, an except or a meet."""
        fails = left.fails or right.fails
        if word == "union":
            nulls = [one or other for one, other in zip(left.nulls, right.nulls)]
            faults = [one or other for one, other in zip(left.faults, right.faults)]
            return Facts(tuple(nulls), tuple(faults), fails, OwnKeys([]))
        fails = fails or any(left.faults) or any(right.faults)
        return Facts(left.nulls, (False,) * len(left.nulls), fails, left.unique)


def facts(plan, schemas):
    """For each column whether it may be null and whether it may be a fault; whether the plan may fail; its keys."""
    known = Knowing({schema[0]: schema for schema in schemas}).plan(plan, [])
    unique = known.unique.listed({at: True for at in range(len(known.nulls))})
    return known.nulls, known.faults, known.fails, unique
