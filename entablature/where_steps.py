"""The steps that change a where, but for those that change a plan in its condition."""

from entablature.facts import safe
from entablature.operators import is_strict
from entablature.plan import ALWAYS, moved, put_in, used


def is_and(cond):
    """Whether a condition is an "and"."""
    return cond[0] == "op" and cond[1] == "and"


def lies_in(expr, low, high):
    """Whether an expression uses columns from one place up to another one alone."""
    return all([low <= at < high for at in used(expr)])


def shifted_by(expr, low, width):
    """An expression over columns from a place on, for a row that begins there."""
    return moved(expr, [max(at - low, 0) for at in range(width)])


def is_null_in(expr, low):
    """Whether an expression is null if all columns from a place on are."""
    if expr[0] == "col":
        return expr[1] >= low
    return expr[0] == "op" and is_strict(expr[1]) and any([is_null_in(arg, low) for arg in expr[2]])


def is_strict_in(cond, low):
    """Whether a condition is null or False if all columns from a place on are null."""
    if is_null_in(cond, low):
        return True
    if cond[0] != "op" or cond[1] not in ("and", "or"):
        return False
    told = [is_strict_in(arg, low) for arg in cond[2]]
    return any(told) if cond[1] == "and" else all(told)


def split(piece):
    """where(and(c, d), P) becomes where(d, where(c, P))."""
    cond, below = piece.plan[1], piece.inputs[0]
    if not is_and(cond) or not safe(cond[2][0], below.faults()):
        return []
    return [below.where(cond[2][0]).where(cond[2][1])]


def merge(piece):
    """where(d, where(c, P)) becomes where(and(c, d), P)."""
    below = piece.inputs[0]
    if below.plan[0] != "where" or not safe(below.plan[1], below.inputs[0].faults()):
        return []
    return [below.inputs[0].where(("op", "and", (below.plan[1], piece.plan[1])))]


def true(piece):
    """where(True, P) becomes P."""
    below = piece.inputs[0]
    return [below] if piece.plan[1] == ALWAYS and not below.has_order() else []


def select(piece):
    """where(c, select(e, P)) becomes select(e, where(c with e put in, P))."""
    below = piece.inputs[0]
    if below.plan[0] != "select":
        return []
    return [below.inputs[0].where(put_in(piece.plan[1], below.plan[1])).select(below.plan[1])]


def down(piece):
    """A condition of the left goes down to the left side of a join."""
    cond, below = piece.plan[1], piece.inputs[0]
    if below.plan[0] != "join" or below.plan[1] not in ("inner", "left", "semi", "anti"):
        return []
    left, right = below.inputs
    if not lies_in(cond, 0, left.width) or not safe(cond, left.faults()):
        return []
    if not safe(below.plan[2], left.faults() + right.faults()) or not right.is_steady():
        return []
    return [left.where(cond).joined(below.plan[1], below.plan[2], right)]


def downright(piece):
    """A condition of the right goes down to the right side of a join."""
    cond, below = piece.plan[1], piece.inputs[0]
    if below.plan[0] != "join" or below.plan[1] not in ("inner", "right"):
        return []
    left, right = below.inputs
    both = left.faults() + right.faults()
    if not lies_in(cond, left.width, len(both)) or not safe(cond, both):
        return []
    if not safe(below.plan[2], both) or not left.is_steady():
        return []
    return [left.joined(below.plan[1], below.plan[2], right.where(shifted_by(cond, left.width, len(both))))]


def on(piece):
    """A condition over an inner join becomes a part of the join's condition."""
    below = piece.inputs[0]
    if below.plan[0] != "join" or below.plan[1] != "inner" or not safe(below.plan[2], below.faults()):
        return []
    left, right = below.inputs
    return [left.joined("inner", ("op", "and", (below.plan[2], piece.plan[1])), right)]


def strict(piece):
    """A left join becomes an inner one, if the condition drops the rows without a partner."""
    below = piece.inputs[0]
    if below.plan[0] != "join" or below.plan[1] != "left":
        return []
    left, right = below.inputs
    if not safe(below.plan[2], left.faults() + right.faults()) or not is_strict_in(piece.plan[1], left.width):
        return []
    return [left.joined("inner", below.plan[2], right).where(piece.plan[1])]


def unite(piece):
    """A condition over a union goes down to both sides."""
    cond, below = piece.plan[1], piece.inputs[0]
    if below.plan[0] != "union":
        return []
    left, right = below.inputs
    if not safe(cond, below.faults()) and not (left.is_steady() and right.is_steady()):
        return []
    inputs = [left.where(cond), right.where(cond)]
    return [below.with_input(0, inputs[0]).with_input(1, inputs[1])]


def oncewhere(piece):
    """where(c, distinct(P)) becomes distinct(where(c, P))."""
    below = piece.inputs[0]
    if below.plan[0] != "distinct" or any(below.inputs[0].faults()):
        return []
    return [below.with_input(0, below.inputs[0].where(piece.plan[1]))]


def groupwhere(piece):
    """A condition of the keys goes down below a group."""
    cond, below = piece.plan[1], piece.inputs[0]
    if below.plan[0] != "group" or not below.plan[1] or not lies_in(cond, 0, len(below.plan[1])):
        return []
    faults = below.inputs[0].faults()
    if not safe(cond, below.faults()) or not all([safe(key, faults) for key in below.plan[1]]):
        return []
    return [below.with_input(0, below.inputs[0].where(put_in(cond, below.plan[1])))]


STEPS = {
    "true": true, "split": split, "merge": merge, "select": select, "down": down, "downright": downright, "on": on,
    "strict": strict, "unite": unite, "oncewhere": oncewhere, "groupwhere": groupwhere,
}


def where_steps(rule, piece):
    """What a rule makes of a where, in each way in which it fits."""
    if rule not in STEPS:
        return []
    action = STEPS[rule]
    return action(piece)
