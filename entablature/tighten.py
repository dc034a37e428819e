"""Plans of views made so that fewer pairs of rows come about: conditions go to the sides of inner joins.

This holds for plans whose conditions are never faults: each row of a where or pair of an inner join is there exactly
if all parts of the conditions are True, wherever they are looked at.
"""

from entablature.join_steps import is_side
from entablature.plan import ALWAYS, joined, moved, parts


def narrowed(conds, piece):
    """The rows of a piece for which all of some conditions are True."""
    if piece.plan[0] == "join" and piece.plan[1] == "inner":
        return paired(parts(piece.plan[2]) + conds, piece.inputs[0], piece.inputs[1])
    conds = [cond for cond in conds if cond != ALWAYS]
    return piece.where(joined(conds)) if conds else piece


def paired(conds, left, right):
    """The inner join of two pieces by all of some conditions."""
    many = left.width
    width = many + right.width
    places = [max(at - many, 0) for at in range(width)]
    first = [cond for cond in conds if is_side(cond, 0, many)]
    second = [moved(cond, places) for cond in conds if is_side(cond, many, width)]
    rest = [cond for cond in conds if cond != ALWAYS and not is_side(cond, 0, many) and not is_side(cond, many, width)]
    return narrowed(first, left).joined("inner", joined(rest), narrowed(second, right))


def tightened(piece):
    """A piece with the same rows, in which the conditions of inner joins stand as far in as they can."""
    inputs = [tightened(below) for below in piece.inputs]
    if piece.plan[0] == "where":
        return narrowed(parts(piece.plan[1]), inputs[0])
    if piece.plan[0] == "join" and piece.plan[1] == "inner":
        return paired(parts(piece.plan[2]), inputs[0], inputs[1])
    for at, below in enumerate(inputs):
        piece = piece.with_input(at, below)
    return piece
