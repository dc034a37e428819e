"""Calls of aggs and window functions in the expressions of a select, and how they are lifted out of them.

A lifted call is left in its expression as ("agg", number, kind, place) or ("win", number, kind, place).
"""

from entablature.errors import BadKind
from entablature.fitting import AGGS, COUNTED, NEIGHBOURS
from entablature.syntax import terms_of

EDGE_ORDER = ("start", "before", "here", "after", "end")


def edge_key(edge):
    """Where an edge stands among all edges."""
    word, many = edge
    return (EDGE_ORDER.index(word), -many if word == "before" else many)


def is_frame(frame):
    """Whether the edges of a frame stand the right way round."""
    first, last = frame
    return first[0] != "end" and last[0] != "start" and edge_key(first) <= edge_key(last)


def is_agg(expr):
    """Whether an expression is a call of an agg, right or not, without OVER."""
    return expr[0] == "call" and expr[5] is None and expr[1] in AGGS


def is_over(expr):
    """Whether an expression is a call with OVER, right or not."""
    return expr[0] == "call" and expr[5] is not None


def fits_agg(name, args, star):
    """Whether an agg takes such arguments."""
    return name == "count" if star else len(args) == 1


def is_right_agg(call):
    """Whether a call of an agg is right but for the kinds."""
    return fits_agg(call[1], call[3], call[4])


def is_right_window(call):
    """Whether a call with OVER is right but for the kinds."""
    _, name, distinct, args, star, window, _ = call
    if distinct:
        return False
    if name in AGGS:
        return fits_agg(name, args, star) and (window[2] is None or is_frame(window[2]))
    if star or window[2] is not None:
        return False
    return (name in COUNTED and len(args) == 0) or (name in NEIGHBOURS and len(args) == 1)


def call_with(call, change):
    """A call with other expressions in it."""
    word, name, distinct, args, star, window, at = call
    args = tuple([change(arg) for arg in args])
    if window is not None:
        partition = tuple([change(expr) for expr in window[0]])
        order = tuple([(change(item[0]), item[1], item[2]) for item in window[1]])
        window = (partition, order, window[2])
    return (word, name, distinct, args, star, window, at)


def expr_with(expr, change):
    """An expression with other expressions in it; queries in it stay."""
    word = expr[0]
    if word == "op":
        return (word, expr[1], tuple([change(arg) for arg in expr[2]]), expr[3])
    if word == "case":
        pairs = tuple([(change(cond), change(worth)) for cond, worth in expr[1]])
        return (word, pairs, change(expr[2]), expr[3])
    if word == "in":
        return (word, change(expr[1]), expr[2], expr[3])
    if word == "call":
        return call_with(expr, change)
    return expr


def has_agg(expr):
    """Whether there is a call of an agg without OVER in an expression."""
    return is_agg(expr) or any([has_agg(term) for term in terms_of(expr)])


def has_over(expr):
    """Whether there is a call with OVER in an expression."""
    return is_over(expr) or any([has_over(term) for term in terms_of(expr)])


def lift_aggs(expr, may_over, bind_agg):
    """The expression with its aggs lifted out by bind_agg; may_over: windows may stand here.

    A call around an agg that is to be refused as a whole is refused before the agg is looked at.
    """
    if not has_agg(expr):
        return expr
    if is_agg(expr):
        return bind_agg(expr)
    if expr[0] == "call":
        if not may_over or not is_over(expr) or not is_right_window(expr):
            raise BadKind(expr[-1])
        return expr_with(expr, lambda term: lift_aggs(term, False, bind_agg))
    return expr_with(expr, lambda term: lift_aggs(term, may_over, bind_agg))


def lift_windows(expr, bind_window):
    """The expression with its calls with OVER lifted out by bind_window, likewise."""
    if not has_over(expr):
        return expr
    if is_over(expr):
        return bind_window(expr)
    if expr[0] == "call":
        raise BadKind(expr[-1])
    return expr_with(expr, lambda term: lift_windows(term, bind_window))
