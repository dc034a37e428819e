"""The steps that change a select."""

from entablature.facts import eq_columns, has_key_in, safe
from entablature.join_steps import columns, faults_of
from entablature.piece import Piece
from entablature.plan import moved, put_in, used
from entablature.where_steps import lies_in


def inline(piece):
    """select(e, select(f, P)) becomes select(e with f put in, P)."""
    below = piece.inputs[0]
    if below.plan[0] != "select":
        return []
    return [below.inputs[0].select([put_in(expr, below.plan[1]) for expr in piece.plan[1]])]


def same(piece):
    """A select of just all columns is left out."""
    below = piece.inputs[0]
    return [below] if piece.plan[1] == columns(0, below.width) else []


def drop(piece):
    """A left join of which only the left is used, and that never repeats a row, is left out."""
    below = piece.inputs[0]
    if below.plan[0] != "join" or below.plan[1] != "left":
        return []
    left, right = below.inputs
    if not all([lies_in(expr, 0, left.width) for expr in piece.plan[1]]) or left.has_order():
        return []
    if not safe(below.plan[2], faults_of(below)) or not right.is_steady():
        return []
    pairs = eq_columns(below.plan[2], left.width)
    if not has_key_in(right.known().unique, [pair[1] for pair in pairs]):
        return []
    return [left.select(piece.plan[1])]


def used_by(exprs):
    """The columns that some expressions use, as the keys of a dict."""
    return {at: True for expr in exprs for at in used(expr)}


def places_of(kept, many):
    """For each of so many columns its place among those that are kept."""
    places = [0] * many
    for place, at in enumerate(kept):
        places[at] = place
    return places


def narrowed(piece, kept, below):
    """A select of a piece over another one that has only some of the columns."""
    places = places_of(kept, piece.inputs[0].width)
    return below.select([moved(expr, places) for expr in piece.plan[1]])


def kept_places(needed, low, high):
    """Those of the columns from one place up to another one that are needed."""
    return [at for at in range(low, high) if at in needed]


def prune_side(piece, side):
    """One side of a join lacks the columns that are not used."""
    below = piece.inputs[0]
    left, right = below.inputs
    needed = used_by(list(piece.plan[1]) + [below.plan[2]])
    low, high = (0, left.width) if side == 0 else (left.width, left.width + right.width)
    kept = kept_places(needed, low, high)
    if len(kept) == high - low:
        return []
    inner = below.inputs[side].select([("col", at - low) for at in kept])
    others = list(range(low)) + kept + list(range(high, left.width + right.width))
    cond = moved(below.plan[2], places_of(others, left.width + right.width))
    inputs = [inner, right] if side == 0 else [left, inner]
    told = inputs[0].joined(below.plan[1], cond, inputs[1])
    return [narrowed(piece, others[:told.width], told)]


def prune_window(piece):
    """A window lacks the functions that are not used."""
    below = piece.inputs[0]
    under = below.inputs[0]
    needed = used_by(piece.plan[1])
    kept = list(range(under.width))
    funs = []
    for at, fun in enumerate(below.plan[1]):
        exprs = list(fun[2]) + [item[0] for item in fun[3]]
        if under.width + at in needed or not all([safe(expr, under.faults()) for expr in exprs]):
            kept.append(under.width + at)
            funs.append(fun)
    if len(funs) == len(below.plan[1]):
        return []
    return [narrowed(piece, kept, Piece(("window", tuple(funs), under.plan), [under], piece.forms))]


def prune_group(piece):
    """A group lacks the aggs that are not used."""
    below = piece.inputs[0]
    many = len(below.plan[1])
    needed = used_by(piece.plan[1])
    kept = list(range(many)) + kept_places(needed, many, below.width)
    if len(kept) == below.width:
        return []
    aggs = tuple([below.plan[2][at - many] for at in kept[many:]])
    under = below.inputs[0]
    return [narrowed(piece, kept, Piece(("group", below.plan[1], aggs, under.plan), [under], piece.forms))]


def prune_select(piece):
    """A select lacks the expressions that are not used."""
    below = piece.inputs[0]
    kept = kept_places(used_by(piece.plan[1]), 0, below.width)
    if len(kept) == below.width:
        return []
    return [narrowed(piece, kept, below.inputs[0].select([below.plan[1][at] for at in kept]))]


def prune(piece):
    """A select over a join, window, group or select that lacks some columns that are not used."""
    word = piece.inputs[0].plan[0]
    if word == "join":
        return prune_side(piece, 0) + prune_side(piece, 1)
    if word == "window":
        return prune_window(piece)
    if word == "group":
        return prune_group(piece)
    return prune_select(piece) if word == "select" else []


STEPS = {"inline": inline, "same": same, "prune": prune, "drop": drop}


def select_steps(rule, piece):
    """What a rule makes of a select, in each way in which it fits."""
    if rule not in STEPS:
        return []
    action = STEPS[rule]
    return action(piece)
