"""The rules of steps, and all steps that they allow."""

from entablature.branches import exprs_of, with_parts
from entablature.folding import folded
from entablature.join_steps import join_steps
from entablature.nested_steps import nested_steps
from entablature.piece import Piece, can_replace, piece_of, plan_with
from entablature.select_steps import select_steps
from entablature.where_steps import where_steps

MOST_STEPS = 500
# For each plan the rules that may change it.
RULES = {
    "where": (
        "split", "merge", "true", "select", "down", "downright", "on", "strict", "unite", "oncewhere", "groupwhere",
        "exists", "notexists", "within", "fold",
    ),
    "select": ("inline", "same", "prune", "drop", "fold"),
    "join": ("off", "swap", "swapouter", "turn", "turnback", "semi"),
    "distinct": ("once",),
}


def rules_for(piece):
    """The names of the rules that may change a piece."""
    return RULES.get(piece.plan[0], ())


def once(piece):
    """distinct(P) becomes P, if no two of its rows are alike."""
    below = piece.inputs[0]
    if not below.known().unique.is_any() or below.has_order() or any(below.faults()):
        return []
    return [below]


def fold(piece):
    """A where or a select with an expression that is simpler at one place."""
    exprs = exprs_of(piece.plan)
    found = []
    for at, expr in enumerate(exprs):
        for told in folded(expr):
            plan = with_parts(piece.plan, exprs[:at] + [told] + exprs[at + 1:], [piece.inputs[0].plan])
            if plan not in found:
                found.append(plan)
    # No expression becomes larger, so what was counted for the piece before serves for all of them.
    return [Piece(plan, piece.inputs, piece.forms, piece.gauge) for plan in found]


def instances(rule, piece):
    """What a rule makes of a piece, in each way in which it fits, whatever the bounds are."""
    if rule not in rules_for(piece):
        return []
    if rule == "fold":
        return fold(piece)
    if piece.plan[0] == "distinct":
        return once(piece)
    if piece.plan[0] == "join":
        return join_steps(rule, piece)
    if piece.plan[0] == "select":
        return select_steps(rule, piece)
    return where_steps(rule, piece) + nested_steps(rule, piece)


def made(rule, chain):
    """What a rule makes of the last piece of a chain, where that keeps the first one within the bounds."""
    return [piece for piece in instances(rule, chain[-1]) if can_replace(chain, piece)]


def found(plan, schemas):
    """The steps that lead on from a plan: its rule, its path and the whole plan behind it."""
    steps = []
    left = [([piece_of(plan, {schema[0]: schema for schema in schemas})], ())]
    while left:
        chain, path = left.pop()
        for rule in rules_for(chain[-1]):
            for piece in made(rule, chain):
                if len(steps) == MOST_STEPS:
                    return steps
                steps.append((rule, path, plan_with(chain, path, piece.plan)))
        for at, below in enumerate(chain[-1].inputs):
            left.append((chain + [below], path + (at,)))
    return steps
