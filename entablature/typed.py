"""Binds expressions.

In a select that groups, an expression is first bound over the FROM, as the keys are. So it is seen which
parts of it equal a key; a name that no such part covers is refused, in its turn among the other mistakes:
the work keeps a list of the names that are not covered so far.
"""

from entablature.errors import BadKind, BadName
from entablature.operators import ALIKE, FIXED, kind_of

INT = "int"
BOOL = "bool"


def is_null(expr):
    """Whether an expression is a null literal."""
    return expr[0] == "lit" and expr[1] is None


def kind_of_value(x):
    """The kind of a literal that is not null."""
    if type(x) is bool:
        return BOOL
    return INT if type(x) is int else "text"


def bound_whole(work, around, expr, asked):
    """A whole expression of a query, and its kind: BadKind unless that is the one that is asked for, if any."""
    mark = work.mark()
    raw, kind = bound_asked(work, around, expr, asked)
    work.check_covered(mark, around.scopes[0].number)
    return raw, kind


def bound_asked(work, around, expr, asked):
    """The same for a part of an expression."""
    raw, kind = bound_expr(work, around, expr, asked)
    if asked is not None and kind != asked:
        raise BadKind(expr[-1])
    return raw, kind


def bound_expr(work, around, expr, asked):
    """An expression over the columns of the FROM, and its kind; a null literal takes the kind that is asked for."""
    mark = work.mark()
    raw, kind = bound_word(work, around, expr, asked)
    scope = around.scopes[0]
    if scope.place_in_groups(raw) >= 0:
        work.cover(mark, scope.number)
    return raw, kind


def bound_word(work, around, expr, asked):
    """The same by the word of the expression, whatever the keys are."""
    word = expr[0]
    if word == "lit":
        kind = (asked or INT) if expr[1] is None else kind_of_value(expr[1])
        return ("const", kind, expr[1]), kind
    if word == "name":
        return bound_name(work, around, expr)
    if word == "op":
        return bound_op(work, around, expr)
    if word == "case":
        return bound_case(work, around, expr)
    if word == "in":
        return bound_in(work, around, expr)
    if word in ("scalar", "exists"):
        return bound_nested(work, around, expr)
    if word == "call":
        # Calls where they may stand have been lifted out by now.
        raise BadKind(expr[-1])
    return (word, expr[1]), expr[2]


def bound_name(work, around, expr):
    """A name, looked for from the inside out."""
    called, name, at = expr[1:]
    for far, scope in enumerate(around.scopes):
        places = scope.places(called, name)
        if len(places) == 1:
            return found_column(work, scope, far, places[0], at)
        if places or scope.closed or scope.has_base(called):
            raise BadName(at)
    raise BadName(at)


def found_column(work, scope, far, place, at):
    """A column of a scope so far out, and its kind."""
    if scope.groups is not None and ("col", place) not in scope.groups:
        work.leave(scope.number, at)
    kind = scope.columns()[place][2]
    if far == 0:
        return ("col", place), kind
    return ("outer", far, place), kind


def bound_op(work, around, expr):
    """An operator."""
    name, args = expr[1:3]
    if name in ALIKE:
        told = bound_pair(work, around, args[0], args[1])
    elif name == "isnull":
        told = [bound_expr(work, around, args[0], None)]
    else:
        told = [bound_asked(work, around, arg, kind) for arg, kind in zip(args, FIXED[name][1])]
    raws = tuple([raw for raw, _ in told])
    return ("op", name, raws), kind_of(name, tuple([kind for _, kind in told]))


def bound_pair(work, around, left, right):
    """Two arguments of one kind."""
    if is_null(left):
        # A null literal is no mistake, so the other argument may tell its kind first.
        second = bound_expr(work, around, right, None)
        return [bound_expr(work, around, left, second[1]), second]
    first = bound_expr(work, around, left, None)
    return [first, bound_asked(work, around, right, first[1])]


def bound_case(work, around, expr):
    """A case; its null literals take the kind of the first value that is none."""
    conds = []
    worths = []
    kind = None
    for cond, worth in expr[1] + ((None, expr[2]),):
        if cond is not None:
            conds.append(bound_asked(work, around, cond, BOOL)[0])
        if is_null(worth):
            worths.append(None)
        else:
            raw, kind = bound_asked(work, around, worth, kind)
            worths.append(raw)
    kind = kind or INT
    told = [("const", kind, None) if raw is None else raw for raw in worths]
    return ("case", tuple(zip(conds, told)), told[-1]), kind


def bound_in(work, around, expr):
    """Whether an expression is among the rows of a query."""
    left, query, at = expr[1:]
    first = None
    if not is_null(left):
        first = bound_expr(work, around, left, None)
    plan, _, kinds = work.nested(around, query)
    if len(kinds) != 1 or (first is not None and kinds[0] != first[1]):
        raise BadKind(at)
    if first is None:
        first = bound_expr(work, around, left, kinds[0])
    return ("in", first[0], plan), BOOL


def bound_nested(work, around, expr):
    """A query that stands for a value, or that may have a row."""
    word, query, at = expr
    plan, _, kinds = work.nested(around, query)
    if word == "exists":
        return ("exists", plan), BOOL
    if len(kinds) != 1:
        raise BadKind(at)
    return ("scalar", plan), kinds[0]
