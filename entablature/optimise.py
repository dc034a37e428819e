"""Other plans for a plan, and the methods by which they are worked out."""

from entablature.estimate import cost
from entablature.facts import safe
from entablature.folding import first_folded
from entablature.branches import exprs_of, with_parts
from entablature.join_steps import equal_pairs, faults_of
from entablature.piece import Piece, piece_of, piece_with
from entablature.rules import made, rules_for
from entablature.running import over, simple

MOST_STEPS = 64
# A select is put into another one only if the plan grows by no more nodes than this.
SPARE_NODES = 4
# What costs more than so many times the best one is no candidate, unless it costs little.
FAR = 4
SMALL = 200000
LEANER = (
    "fold", "true", "same", "inline", "select", "split", "down", "downright", "oncewhere", "groupwhere", "unite",
    "strict", "exists", "notexists", "within", "on", "once", "drop",
)
TOGETHER = ("merge",)
TURNING = ("turn", "turnback", "semi", "swap", "swapouter")


def first_fold(piece):
    """The first way in which an expression of a piece folds."""
    exprs = exprs_of(piece.plan)
    for at, expr in enumerate(exprs):
        told = first_folded(expr)
        if told is not None:
            plan = with_parts(piece.plan, exprs[:at] + [told] + exprs[at + 1:], [piece.inputs[0].plan])
            return [Piece(plan, piece.inputs, piece.forms, piece.gauge)]
    return []


def wished(rule, chain):
    """What a rule makes of the last piece of a chain, if that is wished for."""
    if rule == "fold":
        return first_fold(chain[-1])
    told = made(rule, chain)
    if rule == "inline":
        return [piece for piece in told if piece.many <= chain[-1].many + SPARE_NODES]
    return told


def next_step(top, rules):
    """The first step by one of some rules, as a rule, a path and the piece that comes of the whole; or None."""
    left = [([top], ())]
    while left:
        chain, path = left.pop()
        can = rules_for(chain[-1])
        for rule in rules:
            if rule in can:
                told = wished(rule, chain)
                if told:
                    return rule, path, piece_with(chain, path, told[0])
        for at, below in enumerate(chain[-1].inputs):
            left.append((chain + [below], path + (at,)))
    return None


class Way:
    """Steps that lead from a plan to another one, and the piece of that."""

    def __init__(self, top, steps):
        self.top = top
        self.steps = steps

    def further(self, rules, most):
        """The way on by at most so many steps of some rules."""
        top = self.top
        steps = list(self.steps)
        for _ in range(most):
            told = next_step(top, rules)
            if told is None:
                break
            rule, path, top = told
            steps.append((rule, path, top.plan))
        return Way(top, steps)


def ways_from(top):
    """Some ways from a plan, no two of them to the same one."""
    straight = Way(top, [])
    lean = straight.further(LEANER, MOST_STEPS).further(TOGETHER, MOST_STEPS)
    narrow = lean.further(LEANER + ("prune",), MOST_STEPS).further(TOGETHER, MOST_STEPS)
    found = []
    for way in (lean, straight, narrow, lean.further(TURNING, 1), straight.further(TURNING, 1)):
        if way.top.plan not in [other.top.plan for other in found]:
            found.append(way)
    return found


def join_by(piece, word, inputs):
    """The running plan of a join by a method, if that can be used; otherwise by pairs."""
    side, cond = piece.plan[1], piece.plan[2]
    if word != "loop" and safe(cond, faults_of(piece)):
        lefts, rights = equal_pairs(piece)
        if lefts:
            return (word, side, lefts, rights, cond, inputs[0], inputs[1])
    return ("loop", side, cond, inputs[0], inputs[1])


def running_by(piece, word):
    """The running plan of a piece whose joins go by a method where it can be used."""
    plan = piece.plan
    if plan[0] == "where" and plan[2][0] == "scan":
        return ("scan", plan[2][1], plan[1])
    inputs = [running_by(below, word) for below in piece.inputs]
    if plan[0] == "join":
        return join_by(piece, word, inputs)
    if plan[0] == "group" and word == "merge":
        return ("sorted", plan[1], plan[2], inputs[0])
    return over(plan, inputs)


def candidates(plan, schemas, stats):
    """The candidates for a plan, each as the steps to another one and a running plan of that; the best one first."""
    top = piece_of(plan, {schema[0]: schema for schema in schemas})
    found = []
    for way in ways_from(top):
        runnings = []
        for running in (running_by(way.top, "hash"), running_by(way.top, "merge"), simple(way.top.plan)):
            if running not in runnings:
                runnings.append(running)
                found.append((cost(running, stats), list(way.steps), running))
    found = sorted(found, key=lambda told: told[0])
    most = max(FAR * found[0][0], SMALL)
    return [(steps, running) for worth, steps, running in found if worth <= most]
