"""The bounds of plans that are right otherwise."""

from entablature.branches import args_of, exprs_of, inputs_of, plans_of, width_over
from entablature.errors import TooMuch

MOST_COLUMNS = 24
MOST_DEEP = 60
MOST_NODES = 2000


class Tally:
    """Counts the nodes of a plan."""

    def __init__(self, widths):
        # How many columns each table has.
        self.widths = widths
        self.many = 0

    def node(self, deep):
        """Counts one node that is nested so deep."""
        self.many += 1
        if self.many > MOST_NODES or deep > MOST_DEEP:
            raise TooMuch()

    def expr(self, expr, deep):
        """Counts an expression."""
        self.node(deep)
        for arg in args_of(expr):
            self.expr(arg, deep + 1)
        for plan in plans_of(expr):
            self.plan(plan, deep + 1)

    def plan(self, plan, deep):
        """Counts a plan, and tells how many columns it has."""
        self.node(deep)
        for expr in exprs_of(plan):
            self.expr(expr, deep + 1)
        inputs = [self.plan(below, deep + 1) for below in inputs_of(plan)]
        width = self.widths[plan[1]] if plan[0] == "scan" else width_over(plan, inputs)
        if width > MOST_COLUMNS:
            raise TooMuch()
        return width


def widths_of(schemas):
    """How many columns each table has."""
    return {schema[0]: len(schema[1]) for schema in schemas}


def check_bounds(plan, widths):
    """Refuses a plan that is right otherwise but has too many columns, levels or nodes."""
    Tally(widths).plan(plan, 1)
