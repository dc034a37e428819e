"""The steps that change a join."""

from entablature.facts import eq_columns, has_key_in, safe
from entablature.plan import moved, parts, used
from entablature.where_steps import is_and, lies_in, shifted_by

TURNED = {"inner": "inner", "left": "right", "right": "left"}


def columns(low, high):
    """The columns from one place up to another one."""
    return tuple([("col", at) for at in range(low, high)])


def faults_of(piece):
    """For each column of a pair of rows of a join whether it may be a fault."""
    return piece.inputs[0].faults() + piece.inputs[1].faults()


def is_side(expr, low, high):
    """Whether an expression uses columns from one place up to another one, and at least one."""
    return len(used(expr)) > 0 and lies_in(expr, low, high)


def equal_pairs(piece):
    """What parts of a join's condition say to be equal: expressions of the left, and those of the right."""
    many = piece.inputs[0].width
    width = many + piece.inputs[1].width
    places = [max(at - many, 0) for at in range(width)]
    lefts = []
    rights = []
    for part in parts(piece.plan[2]):
        if part[0] != "op" or part[1] != "eq":
            continue
        for left, right in (part[2], (part[2][1], part[2][0])):
            if is_side(left, 0, many) and is_side(right, many, width):
                lefts.append(left)
                rights.append(moved(right, places))
    return tuple(lefts), tuple(rights)


def off(piece):
    """The last part of an inner join's condition becomes a where."""
    cond = piece.plan[2]
    if piece.plan[1] != "inner" or not is_and(cond) or not safe(cond[2][0], faults_of(piece)):
        return []
    left, right = piece.inputs
    return [left.joined("inner", cond[2][0], right).where(cond[2][1])]


def exchanged(piece):
    """A join with its sides exchanged, and a select that puts the columns into their order."""
    left, right = piece.inputs
    many = left.width + right.width
    places = [at + right.width for at in range(left.width)] + list(range(right.width))
    turned = right.joined(TURNED[piece.plan[1]], moved(piece.plan[2], places), left)
    return turned.select(columns(right.width, many) + columns(0, right.width))


def swap(piece):
    """The sides of an inner join are exchanged."""
    return [exchanged(piece)] if piece.plan[1] == "inner" else []


def swapouter(piece):
    """The sides of a left or right join are exchanged."""
    return [exchanged(piece)] if piece.plan[1] in ("left", "right") else []


def are_inner(piece, below):
    """Whether a piece and one of its inputs are inner joins."""
    return piece.plan[1] == "inner" and below.plan[0] == "join" and below.plan[1] == "inner"


def turn(piece):
    """The joins of three plans are nested to the right."""
    below, third = piece.inputs
    if not are_inner(piece, below):
        return []
    first, second = below.inputs
    cond, inner = piece.plan[2], below.plan[2]
    many = below.width + third.width
    if not lies_in(cond, first.width, many) or not safe(cond, faults_of(piece)):
        return []
    if not safe(inner, faults_of(below)) or not first.is_steady() or not third.is_steady():
        return []
    return [first.joined("inner", inner, second.joined("inner", shifted_by(cond, first.width, many), third))]


def turnback(piece):
    """The joins of three plans are nested to the left."""
    first, below = piece.inputs
    if not are_inner(piece, below):
        return []
    second, third = below.inputs
    outer, cond = piece.plan[2], below.plan[2]
    if not lies_in(outer, 0, first.width + second.width) or not safe(outer, faults_of(piece)):
        return []
    if not safe(cond, faults_of(below)) or not first.is_steady() or not third.is_steady():
        return []
    lifted = moved(cond, [at + first.width for at in range(below.width)])
    return [first.joined("inner", outer, second).joined("inner", lifted, third)]


def semi(piece):
    """A semi join over a key becomes an inner join."""
    left, right = piece.inputs
    if piece.plan[1] != "semi" or not safe(piece.plan[2], faults_of(piece)):
        return []
    pairs = eq_columns(piece.plan[2], left.width)
    if not has_key_in(right.known().unique, [pair[1] for pair in pairs]):
        return []
    return [left.joined("inner", piece.plan[2], right).select(columns(0, left.width))]


STEPS = {"off": off, "swap": swap, "swapouter": swapouter, "turn": turn, "turnback": turnback, "semi": semi}


def join_steps(rule, piece):
    """What a rule makes of a join, in each way in which it fits."""
    if rule not in STEPS:
        return []
    action = STEPS[rule]
    return action(piece)
