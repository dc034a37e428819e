"""The steps by which a condition with a plan in it becomes a join."""

from entablature.branches import args_of, expr_changed, gather_leaves, gather_plan_leaves, plans_of
from entablature.facts import safe
from entablature.piece import piece_of
from entablature.plan import ALWAYS


def has_outer(plan):
    """Whether a plan refers to a row of a query around it."""
    leaves = []
    gather_plan_leaves(plan, 1, leaves)
    return any([leaf[0] == "outer" and leaf[1] >= level for leaf, level in leaves])


def has_plan(expr):
    """Whether there is a plan in an expression."""
    return len(plans_of(expr)) > 0 or any([has_plan(arg) for arg in args_of(expr)])


def is_plain(expr, farthest):
    """Whether an expression has no plans in it, and refers to rows at most so far around it."""
    if has_plan(expr):
        return False
    leaves = []
    gather_leaves(expr, 0, leaves)
    return all([leaf[0] == "col" or leaf[1] <= farthest for leaf, _ in leaves])


def paired_leaf(leaf, many):
    """A column of a plan in a condition, or of the row that the condition is for, as one of the pair of both."""
    if leaf[0] == "outer":
        return ("col", leaf[2])
    return ("col", leaf[1] + many)


def paired(expr, many):
    """An expression of a plan in a condition as one for a pair of rows."""
    return expr_changed(expr, 0, lambda leaf, level: paired_leaf(leaf, many))


def parted(plan):
    """A plan in a condition, as its own condition and the plan below it."""
    return (plan[1], plan[2]) if plan[0] == "where" else (ALWAYS, plan)


def side_of(piece, cond, plan):
    """The piece of a plan in the condition of a where, if it may be a side of a join; cond is its own condition."""
    if not is_plain(cond, 1) or has_outer(plan) or not piece.inputs[0].is_steady():
        return None
    side = piece_of(plan, piece.forms)
    return side if side.is_steady() else None


def joined_to(piece, side, cond, right):
    """The join of the plan below a where and of the plan in its condition, if the condition of the join is safe."""
    left = piece.inputs[0]
    return [left.joined(side, cond, right)] if safe(cond, left.faults() + right.faults()) else []


def existing(piece, plan, side):
    """The join that a where becomes that asks whether a plan has a row."""
    cond, rest = parted(plan)
    right = side_of(piece, cond, rest)
    if right is None:
        return []
    return joined_to(piece, side, paired(cond, piece.inputs[0].width), right)


def exists(piece):
    """where(exists(Q), P) becomes a semi join."""
    cond = piece.plan[1]
    return existing(piece, cond[1], "semi") if cond[0] == "exists" else []


def notexists(piece):
    """where(not(exists(Q)), P) becomes an anti join."""
    cond = piece.plan[1]
    if cond[0] != "op" or cond[1] != "not" or cond[2][0][0] != "exists":
        return []
    return existing(piece, cond[2][0][1], "anti")


def within(piece):
    """where(in(e, Q), P) becomes a semi join."""
    if piece.plan[1][0] != "in" or piece.plan[1][2][0] != "select":
        return []
    _, expr, (_, told, plan) = piece.plan[1]
    left = piece.inputs[0]
    cond, rest = parted(plan)
    right = side_of(piece, cond, rest)
    if right is None or not safe(expr, left.faults()) or not safe(told[0], right.faults()):
        return []
    equal = ("op", "eq", (expr, paired(told[0], left.width)))
    return joined_to(piece, "semi", ("op", "and", (paired(cond, left.width), equal)), right)


STEPS = {"exists": exists, "notexists": notexists, "within": within}


def nested_steps(rule, piece):
    """What a rule makes of a where with a plan in its condition, in each way in which it fits."""
    if rule not in STEPS:
        return []
    action = STEPS[rule]
    return action(piece)
