"""Whether steps are instances of their rules."""

from entablature.piece import piece_at, piece_of, plan_with
from entablature.plan import ALWAYS
from entablature.rules import made


def bare_semi(rule, plan):
    """A semi join whose condition begins with True, without that; it stands for a within without a condition."""
    if rule == "within" and plan[2][2][0] == ALWAYS:
        return [("join", plan[1], plan[2][2][1], plan[3], plan[4])]
    return []


def takes(plan, step, schemas):
    """Whether a step from a plan is an instance of its rule."""
    rule, path, after = step
    chain = piece_at(piece_of(plan, {schema[0]: schema for schema in schemas}), path)
    if chain is None:
        return False
    for piece in made(rule, chain):
        for told in [piece.plan] + bare_semi(rule, piece.plan):
            if plan_with(chain, path, told) == after:
                return True
    return False


def takes_all(plan, steps, schemas):
    """Whether each of some steps is an instance of its rule, one after the other."""
    for step in steps:
        if not takes(plan, step, schemas):
            return False
        plan = step[2]
    return True
