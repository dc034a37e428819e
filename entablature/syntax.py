"""The parts of the trees of queries."""

from entablature.errors import TooMuch

MOST_DEEP = 60
MOST_PARTS = 5000


def case_parts(expr):
    """The expressions of a case, from the left."""
    found = []
    for cond, value in expr[1]:
        found.append(cond)
        found.append(value)
    return found + [expr[2]]


def call_parts(expr):
    """The expressions of a call and its window, from the left."""
    found = list(expr[3])
    if expr[5] is not None:
        partition, order, _ = expr[5]
        found.extend(partition)
        found.extend([item[0] for item in order])
    return found


def select_parts(body):
    """The sources and expressions of a select."""
    found = [out[0] for out in body[2] if out[0] != "all"]
    found.extend(body[3])
    found.extend([expr for expr in (body[4], body[6]) if expr is not None])
    return found + list(body[5] or ())


def terms_of(expr):
    """The expressions that stand in an expression, from the left; a query in it is none."""
    word = expr[0]
    if word == "op":
        return list(expr[2])
    if word == "case":
        return case_parts(expr)
    if word == "call":
        return call_parts(expr)
    if word == "in":
        return [expr[1]]
    return []


def queries_of(expr):
    """The queries that stand in an expression: one or none."""
    if expr[0] in ("scalar", "exists"):
        return [expr[1]]
    if expr[0] == "in":
        return [expr[2]]
    return []


def parts_of(node):
    """The queries, bodies, sources and expressions that stand in one."""
    word = node[0]
    if word == "query":
        return [cte[1] for cte in node[1]] + [node[2]] + [item[0] for item in node[3]]
    if word == "set":
        return [node[3], node[4]]
    if word == "values":
        return [expr for row in node[1] for expr in row]
    if word == "select":
        return select_parts(node)
    if word == "sub":
        return [node[1]]
    if word == "joined":
        return [part for part in (node[2], node[3], node[4]) if part is not None]
    return terms_of(node) + queries_of(node)


def check_tree(tree):
    """Refuses a tree that is nested too deep or too large."""
    many = 0
    left = [(tree, 1)]
    while left:
        node, deep = left.pop()
        many += 1
        if deep > MOST_DEEP or many > MOST_PARTS:
            raise TooMuch()
        for part in parts_of(node):
            left.append((part, deep + 1))
