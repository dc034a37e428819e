"""Prints the trees of queries as texts.

Of the texts that have a tree, one with the fewest nested brackets is printed: "a IN (b, c)" for the or of
two eq, "a BETWEEN b AND c" for the and of ge and le, and "a NOT IN (b)" for the not of an eq. So a text
that is read is never nested deeper when it is printed.
"""

from entablature.bare import bare
from entablature.errors import TooMuch
from entablature.grammar import MOST_TEXT
from entablature.names import FIGURES, SMALL
from entablature.terms import BOTH, CHOICE, PRODUCT, SIGN, SUM, TEST
from entablature.words import is_letter

ATOM = 7

BINARY = {
    "or": ("OR", CHOICE), "and": ("AND", BOTH), "add": ("+", SUM), "sub": ("-", SUM), "cat": ("||", SUM),
    "mul": ("*", PRODUCT), "div": ("/", PRODUCT),
}
COMPARED = {"eq": "=", "ne": "<>", "lt": "<", "le": "<=", "gt": ">", "ge": ">="}
EDGES = {
    "start": ("UNBOUNDED", "PRECEDING"), "here": ("CURRENT", "ROW"), "end": ("UNBOUNDED", "FOLLOWING"),
    "before": ("PRECEDING",), "after": ("FOLLOWING",),
}


def is_op(expr, name):
    """Whether an expression is this operator."""
    return expr[0] == "op" and expr[1] == name


def listed(lists):
    """Lists of things, one behind the other with commas between them."""
    things = []
    for at, part in enumerate(lists):
        if at > 0:
            things.append(",")
        things.extend(part)
    return things


def choices(expr):
    """What one expression is compared with in a chain of eq: that expression and the list, or None."""
    found = []
    while is_op(expr, "or"):
        found.append(expr[2][1])
        expr = expr[2][0]
    found.append(expr)
    for part in found:
        if not is_op(part, "eq") or part[2][0] != found[0][2][0]:
            return None
    return found[0][2][0], [part[2][1] for part in reversed(found)]


def between(expr):
    """The three expressions of a BETWEEN, or None."""
    if not is_op(expr, "and"):
        return None
    low, high = expr[2]
    if not is_op(low, "ge") or not is_op(high, "le") or low[2][0] != high[2][0]:
        return None
    return low[2][0], low[2][1], high[2][1]


def term(expr, least):
    """The things of an expression, in brackets unless it binds closely enough."""
    level, things = bound_term(expr)
    return things if level >= least else ["("] + things + [")"]


def exprs(found):
    """The things of expressions with commas between them."""
    return listed([term(expr, CHOICE) for expr in found])


def bound_term(expr):
    """How closely an expression binds, and its things."""
    word = expr[0]
    if word == "lit":
        return ATOM, [expr[1]]
    if word == "name":
        return ATOM, [expr[2]] if expr[1] is None else [expr[1], ".", expr[2]]
    if word == "op":
        return op_term(expr)
    if word == "in":
        return TEST, relation(expr, False)
    if word == "scalar":
        return ATOM, ["("] + query(expr[1]) + [")"]
    if word == "exists":
        return ATOM, ["EXISTS", "("] + query(expr[1]) + [")"]
    if word == "case":
        return ATOM, case(expr)
    return ATOM, call(expr)


def op_term(expr):
    """The same for an operator."""
    _, name, args = expr
    if name == "not":
        return TEST, denial(args[0])
    tested = relation(expr, False)
    if tested:
        return TEST, tested
    if name in BINARY:
        mark, level = BINARY[name]
        return level, term(args[0], level) + [mark] + term(args[1], level + 1)
    if name in COMPARED:
        return TEST, compared(name, args)
    if name == "neg":
        return SIGN, ["-"] + term(args[0], SIGN)
    if name in ("isnull", "same"):
        return TEST, state(expr, False)
    return ATOM, [name, "("] + exprs(args) + [")"]


def compared(name, args):
    """A comparison; a list of one is the way to write eq without brackets around what binds less closely."""
    level, things = bound_term(args[1])
    if level >= SUM:
        return term(args[0], SUM) + [COMPARED[name]] + things
    if name == "eq":
        return term(args[0], SUM) + ["IN", "("] + things + [")"]
    return term(args[0], SUM) + [COMPARED[name], "("] + things + [")"]


def state(expr, denied):
    """IS NULL and the like."""
    words = ["IS", "NOT"] if denied else ["IS"]
    truth = "NULL" if expr[1] == "isnull" else expr[2][1][1]
    return term(expr[2][0], SUM) + words + [truth]


def denial(expr):
    """The not of an expression, without a NOT in front where there is a way to write it so."""
    tested = relation(expr, True)
    if tested:
        return tested
    if is_op(expr, "isnull") or is_op(expr, "same"):
        return state(expr, True)
    return ["NOT"] + term(expr, TEST)


def relation(expr, denied):
    """The things of BETWEEN, LIKE or IN, with or without NOT; none, if the expression is no such thing."""
    words = ["NOT"] if denied else []
    if expr[0] == "in":
        return term(expr[1], SUM) + words + ["IN", "("] + query(expr[2]) + [")"]
    if is_op(expr, "like"):
        return term(expr[2][0], SUM) + words + ["LIKE"] + term(expr[2][1], SUM)
    found = between(expr)
    if found is not None:
        left, low, high = found
        return term(left, SUM) + words + ["BETWEEN"] + term(low, SUM) + ["AND"] + term(high, SUM)
    if is_op(expr, "or") or (denied and is_op(expr, "eq")):
        found = choices(expr)
        if found is not None:
            return term(found[0], SUM) + words + ["IN", "("] + exprs(found[1]) + [")"]
    return []


def case(expr):
    """CASE .. END."""
    things = ["CASE"]
    for cond, worth in expr[1]:
        things.extend(["WHEN"] + term(cond, CHOICE) + ["THEN"] + term(worth, CHOICE))
    if expr[2] != ("lit", "NULL"):
        things.extend(["ELSE"] + term(expr[2], CHOICE))
    return things + ["END"]


def call(expr):
    """A call with its window."""
    _, name, distinct, args, star, window = expr
    things = [name, "("]
    if star:
        things.append("*")
    if distinct:
        things.append("DISTINCT")
    things.extend(exprs(args) + [")"])
    if window is None:
        return things
    partition, order, frame = window
    things.extend(["OVER", "("])
    if partition:
        things.extend(["PARTITION", "BY"] + exprs(partition))
    things.extend(ordered(order))
    if frame is not None:
        things.extend(["ROWS", "BETWEEN"] + edge(frame[0]) + ["AND"] + edge(frame[1]))
    return things + [")"]


def edge(told):
    """An edge of a frame."""
    word, many = told
    number = [str(many)] if word in ("before", "after") else []
    return number + list(EDGES[word])


def ordered(order):
    """ORDER BY, if there is an order."""
    if not order:
        return []
    return ["ORDER", "BY"] + listed([item(told) for told in order])


def item(told):
    """An expression to order by."""
    expr, desc, first = told
    things = term(expr, CHOICE)
    if desc:
        things.append("DESC")
    if desc != first:
        things.extend(["NULLS", "FIRST" if first else "LAST"])
    return things


def query(tree):
    """The things of a query."""
    _, ctes, body_tree, order, limit, offset = tree
    things = []
    if ctes:
        told = [[name, "AS", "("] + query(inner) + [")"] for name, inner in ctes]
        things.extend(["WITH"] + listed(told))
    things.extend(body(body_tree) + ordered(order))
    if limit is not None:
        things.extend(["LIMIT", str(limit)])
    if offset > 0:
        things.extend(["OFFSET", str(offset)])
    return things


def body(tree):
    """The things of a body."""
    word = tree[0]
    if word == "query":
        return ["("] + query(tree) + [")"]
    if word == "values":
        return ["VALUES"] + listed([["("] + exprs(row) + [")"] for row in tree[1]])
    if word == "select":
        return select(tree)
    _, name, every, left, right = tree
    return body(left) + [name.upper()] + (["ALL"] if every else []) + body(right)


def select(tree):
    """The things of a select."""
    _, distinct, outs, sources, where, groups, having = tree
    things = ["SELECT", "DISTINCT"] if distinct else ["SELECT"]
    things.extend(listed([out(told) for told in outs]))
    if sources:
        things.extend(["FROM"] + listed([source(told) for told in sources]))
    if where is not None:
        things.extend(["WHERE"] + term(where, CHOICE))
    if groups is not None:
        things.extend(["GROUP", "BY"] + exprs(groups))
    if having is not None:
        things.extend(["HAVING"] + term(having, CHOICE))
    return things


def out(told):
    """The things of a column of a select."""
    if told[0] == "all":
        return ["*"] if len(told) == 1 else [told[1], ".", "*"]
    expr, name = told
    return term(expr, CHOICE) + ([] if name is None else ["AS", name])


def source(tree):
    """The things of a source."""
    word = tree[0]
    if word == "table":
        return [tree[1]] if tree[1] == tree[2] else [tree[1], "AS", tree[2]]
    if word == "sub":
        return ["("] + query(tree[1]) + [")", "AS", tree[2]]
    _, side, left, right, on = tree
    things = source(left) + ([] if side == "inner" else [side.upper()]) + ["JOIN"] + source(right)
    return things if on is None else things + ["ON"] + term(on, CHOICE)


def is_wordy(sign):
    """Whether a sign may stand in a word or a number."""
    return is_letter(sign) or sign in FIGURES or sign == "_"


def stand_apart(first, second):
    """Whether a blank between two things makes a text easier to read."""
    if first in ("(", ".") or second in (",", ")", "."):
        return False
    return second != "(" or first[0] not in SMALL


def run_together(first, second):
    """Whether two things would be read as one without a blank."""
    return is_wordy(first[-1]) and is_wordy(second[0])


def spaced(things, apart):
    """The things as one text, with a blank where apart tells it."""
    found = []
    for at, thing in enumerate(things):
        if at > 0 and apart(things[at - 1], thing):
            found.append(" ")
        found.append(thing)
    return "".join(found)


def printed(tree):
    """The text of a query."""
    things = query(bare(tree))
    text = spaced(things, stand_apart)
    if len(text) > MOST_TEXT:
        text = spaced(things, run_together)
    if len(text) > MOST_TEXT:
        raise TooMuch()
    return text
