"""Expressions made ready to be worked out for many rows."""

from entablature.meaning import Ground, found_among
from entablature.operators import STRICT, worked
from entablature.value import MANY, fault, is_fault, least_fault


def first_of(args):
    """What a strict operator answers that has null or a fault among its arguments."""
    return None if None in args else least_fault(args)


def unary(name, arg):
    """A strict operator of one argument."""
    action = STRICT[name]

    def told(row):
        """Its answer for a row."""
        x = arg(row)
        return x if x is None or type(x) is tuple else action(x)

    return told


def binary(name, left, right):
    """A strict operator of two arguments."""
    action = STRICT[name]

    def told(row):
        """Its answer for a row."""
        x = left(row)
        y = right(row)
        if x is None or y is None or type(x) is tuple or type(y) is tuple:
            return first_of((x, y))
        return action(x, y)

    return told


def both(left, right):
    """An "and"; where the first argument settles it, the second one is not worked out."""

    def told(row):
        """Its answer for a row."""
        x = left(row)
        return False if x is False else worked("and", (x, right(row)))

    return told


def either(left, right):
    """An "or", likewise."""

    def told(row):
        """Its answer for a row."""
        x = left(row)
        return True if x is True else worked("or", (x, right(row)))

    return told


def prepared_op(name, args):
    """An operator over arguments that are ready."""
    if name in STRICT and len(args) == 1:
        return unary(name, args[0])
    if name in STRICT and len(args) == 2:
        return binary(name, args[0], args[1])
    if name in ("and", "or"):
        return both(args[0], args[1]) if name == "and" else either(args[0], args[1])
    return lambda row: worked(name, tuple([arg(row) for arg in args]))


def prepared_case(pairs, other):
    """A case over parts that are ready."""

    def told(row):
        """Its value for a row."""
        for cond, worth in pairs:
            x = cond(row)
            if x is True:
                return worth(row)
            if is_fault(x):
                return x
        return other(row)

    return told


def nested_worth(word, rows, left):
    """The value of an expression with a plan in it, from the rows of the plan or the fault with which it fails."""
    if is_fault(rows):
        return rows
    if word == "exists":
        return len(rows) > 0
    if word == "in":
        return found_among(left, rows)
    if len(rows) > 1:
        return fault(MANY)
    return rows[0][0] if rows else None


class Making:
    """Makes expressions ready over the rows of the queries around.

    ground numbers the plans in expressions, and keeps what they told; rows_of(plan, around) works one out.
    """

    def __init__(self, ground, outers, rows_of):
        self.ground = ground
        self.outers = outers
        self.rows_of = rows_of

    def ready(self, expr):
        """A numbered expression as a function of its row."""
        word = expr[0]
        if word == "col":
            at = expr[1]
            return lambda row: row[at]
        if word in ("const", "outer"):
            worth = expr[2] if word == "const" else self.outers[expr[1] - 1][expr[2]]
            return lambda row: worth
        if word == "op":
            return prepared_op(expr[1], [self.ready(arg) for arg in expr[2]])
        if word == "case":
            pairs = [(self.ready(pair[0]), self.ready(pair[1])) for pair in expr[1]]
            return prepared_case(pairs, self.ready(expr[2]))
        return self.nested(expr)

    def nested(self, expr):
        """An expression with a plan in it."""
        word, plan, number, outside = expr[0], expr[-3], expr[-2], expr[-1]
        left = self.ready(expr[1]) if word == "in" else None

        def told(row):
            """Its value for a row."""
            around = [row] + self.outers
            key = (number,) + tuple([around[far][at] for far, at in outside])
            if key not in self.ground.known:
                action = self.rows_of
                self.ground.known[key] = action(plan, around)
            return nested_worth(word, self.ground.known[key], None if left is None else left(row))

        return told


def no_rows(plan, around):
    """Stands for working out plans in expressions where there are none."""
    return []


def prepared(expr):
    """An expression without plans and outers in it as a function of its row."""
    return Making(Ground({}), [], no_rows).ready(expr)
