"""Binds what stands behind FROM."""

from entablature.branches import plan_changed
from entablature.errors import BadName
from entablature.plan import ALWAYS
from entablature.scope import Around, Base
from entablature.typed import BOOL, bound_whole

# The plan of one row without columns.
ONE_ROW = ("rows", (), ((),))


class Known:
    """A named query: its plan, its columns, and within how many scopes it was bound."""

    def __init__(self, plan, names, kinds, deep):
        self.plan = plan
        self.names = names
        self.kinds = kinds
        self.deep = deep

    def plan_at(self, deep):
        """Its plan so many scopes deep, where it means what it means where it is written."""
        far = deep - self.deep
        if far == 0:
            return self.plan
        return plan_changed(self.plan, 0, lambda leaf, level: led_out(leaf, level, far))


def led_out(leaf, level, far):
    """A column that leads out of a plan leads further out by so many levels."""
    if leaf[0] == "outer" and leaf[1] > level:
        return ("outer", leaf[1] + far, leaf[2])
    return leaf


def bound_from(work, around, sources):
    """The plan of a FROM, and its scope; around is what is around the select."""
    taken = {}
    plan = ONE_ROW
    bases = []
    for at, source in enumerate(sources):
        part, chain = bound_source(work, around, source, taken)
        bases.extend(chain)
        if at == 0:
            plan = part
        else:
            plan = ("join", "inner", ALWAYS, plan, part)
            work.check(plan)
    return plan, work.scope(bases)


def bound_source(work, around, source, taken):
    """The plan and the bases of a chain of joins."""
    if source[0] != "joined":
        plan, base = bound_base(work, around, source, taken)
        return plan, [base]
    side, left, right, on = source[1:5]
    first, bases = bound_source(work, around, left, taken)
    second, base = bound_base(work, around, right, taken)
    bases = bases + [base]
    cond = ALWAYS
    if side == "cross":
        side = "inner"
    else:
        inside = Around(around.known, [work.scope(bases)] + around.scopes)
        cond = bound_whole(work, inside, on, BOOL)[0]
    plan = ("join", side, cond, first, second)
    work.check(plan)
    return plan, bases


def bound_base(work, around, source, taken):
    """The plan and the base of a table or a query."""
    word, what, called, at = source[0], source[1], source[-2], source[-1]
    if called in taken:
        raise BadName(at)
    taken[called] = True
    if word == "sub":
        plan, names, kinds = work.nested(around, what)
    elif what in around.known:
        known = around.known[what]
        plan, names, kinds = known.plan_at(len(around.scopes)), known.names, known.kinds
    else:
        plan, names, kinds = work.scan(what, at)
    return plan, Base(called, names, kinds)
