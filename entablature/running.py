"""Running plans: by which method each plan is worked out."""

from entablature.branches import BINARY, exprs_of, inputs_of, with_parts


def below(running):
    """The running plans that a running plan has for its inputs."""
    word = running[0]
    if word in ("scan", "rows"):
        return []
    if word in ("loop", "hash", "merge") or word in BINARY:
        return [running[-2], running[-1]]
    return [running[-1]]


def plan_of(running):
    """The plan that a running plan works out."""
    word = running[0]
    inputs = [plan_of(part) for part in below(running)]
    if word == "scan":
        scan = ("scan", running[1])
        return scan if running[2] is None else ("where", running[2], scan)
    if word == "loop":
        return ("join", running[1], running[2], inputs[0], inputs[1])
    if word in ("hash", "merge"):
        return ("join", running[1], running[4], inputs[0], inputs[1])
    if word == "sorted":
        return ("group", running[1], running[2], inputs[0])
    return with_parts(running, exprs_of(running), inputs)


def fused(plan):
    """The same as simple, but a where over a scan is done by the scan."""
    if plan[0] == "where" and plan[2][0] == "scan":
        return ("scan", plan[2][1], plan[1])
    return over(plan, [fused(part) for part in inputs_of(plan)])


def over(plan, inputs):
    """The running plan of a plan over running plans for its inputs, by the plainest method."""
    if plan[0] == "scan":
        return ("scan", plan[1], None)
    if plan[0] == "join":
        return ("loop", plan[1], plan[2], inputs[0], inputs[1])
    return with_parts(plan, exprs_of(plan), inputs)


def simple(plan):
    """The running plan by the plainest methods."""
    return over(plan, [simple(part) for part in inputs_of(plan)])
