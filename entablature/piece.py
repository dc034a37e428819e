"""Plans cut into pieces, each with its size and with what is known of it."""

from entablature.branches import args_of, exprs_of, inputs_of, plans_of, width_over, with_input
from entablature.facts import Knowing
from entablature.limits import MOST_COLUMNS, MOST_DEEP, MOST_NODES


class Gauge:
    """Counts the nodes of expressions and how deep they are nested; what is beyond the bounds is not looked at."""

    def __init__(self):
        self.many = 0
        self.deep = 0

    def expr(self, expr, deep):
        """Counts an expression."""
        self.many += 1
        self.deep = max(self.deep, deep)
        if self.many > MOST_NODES or deep > MOST_DEEP:
            return
        for arg in args_of(expr):
            self.expr(arg, deep + 1)
        for plan in plans_of(expr):
            self.plan(plan, deep + 1)

    def plan(self, plan, deep):
        """Counts a plan in an expression."""
        self.many += 1
        self.deep = max(self.deep, deep)
        if self.many > MOST_NODES or deep > MOST_DEEP:
            return
        for expr in exprs_of(plan):
            self.expr(expr, deep + 1)
        for below in inputs_of(plan):
            self.plan(below, deep + 1)


def gauge_of(plan):
    """The size of the expressions of a plan."""
    gauge = Gauge()
    for expr in exprs_of(plan):
        gauge.expr(expr, 1)
    return gauge


class Piece:
    """A plan over pieces; forms are the schemas of the tables by their names."""

    def __init__(self, plan, inputs, forms, gauge=None):
        self.plan = plan
        self.inputs = inputs
        self.forms = forms
        # The size of its own expressions, which is counted once for all plans with these expressions.
        self.gauge = gauge or gauge_of(plan)
        self.many = 1 + self.gauge.many + sum([below.many for below in inputs])
        self.deep = 1 + max([self.gauge.deep] + [below.deep for below in inputs])
        if plan[0] == "scan":
            self.width = len(forms[plan[1]][1])
        else:
            self.width = width_over(plan, [below.width for below in inputs])
        self.is_right = self.width <= MOST_COLUMNS and all([below.is_right for below in inputs])
        self.told = None

    def known(self):
        """The facts of the plan; it stands in no expression."""
        if self.told is None:
            self.told = Knowing(self.forms).over(self.plan, [below.known() for below in self.inputs], [])
        return self.told

    def faults(self):
        """For each column whether it may be a fault."""
        return self.known().faults

    def is_steady(self):
        """Whether the plan never fails."""
        return not self.known().fails

    def has_order(self):
        """Whether the rows of the plan stand in an order."""
        piece = self
        while piece.plan[0] == "select":
            piece = piece.inputs[0]
        return piece.plan[0] == "top"

    def with_input(self, at, below):
        """The same plan over another input at a place."""
        inputs = list(self.inputs)
        inputs[at] = below
        return Piece(with_input(self.plan, at, below.plan), inputs, self.forms, self.gauge)

    def where(self, cond):
        """A where over this piece."""
        return Piece(("where", cond, self.plan), [self], self.forms)

    def select(self, exprs):
        """A select over this piece."""
        return Piece(("select", tuple(exprs), self.plan), [self], self.forms)

    def joined(self, side, cond, other):
        """A join with this piece on the left."""
        return Piece(("join", side, cond, self.plan, other.plan), [self, other], self.forms)


def piece_of(plan, forms):
    """The piece of a plan that is right for the schemas."""
    return Piece(plan, [piece_of(below, forms) for below in inputs_of(plan)], forms)


def piece_at(piece, path):
    """The pieces from the first one along a path, or None if it leads nowhere."""
    found = [piece]
    for at in path:
        if not 0 <= at < len(found[-1].inputs):
            return None
        found.append(found[-1].inputs[at])
    return found


def can_replace(chain, piece):
    """Whether the first piece of a chain keeps within the bounds with another piece at the end of the chain."""
    many = chain[0].many - chain[-1].many + piece.many
    return piece.is_right and many <= MOST_NODES and len(chain) - 1 + piece.deep <= MOST_DEEP


def plan_with(chain, path, plan):
    """The plan of the first piece of a chain along a path, with another plan at its end."""
    for at in range(len(path) - 1, -1, -1):
        plan = with_input(chain[at].plan, path[at], plan)
    return plan


def piece_with(chain, path, piece):
    """The first piece of a chain along a path, with another piece at its end."""
    for at in range(len(path) - 1, -1, -1):
        piece = chain[at].with_input(path[at], piece)
    return piece
