"""Expressions that are simpler at one place and have the same value for each row."""

from entablature.branches import args_of, plans_of, with_args
from entablature.operators import kind_of, worked
from entablature.plan import ALWAYS
from entablature.value import is_fault

NEVER = ("const", "bool", False)


def folded_op(name, args):
    """What an operator folds to, in each way in which it does."""
    found = []
    if name in ("and", "or"):
        neutral, deciding = (ALWAYS, NEVER) if name == "and" else (NEVER, ALWAYS)
        if args[0] == neutral:
            found.append(args[1])
        if args[1] == neutral:
            found.append(args[0])
        if deciding in args:
            found.append(deciding)
    if name == "not" and args[0][0] == "op" and args[0][1] == "not":
        found.append(args[0][2][0])
    if all([arg[0] == "const" for arg in args]):
        told = worked(name, tuple([arg[2] for arg in args]))
        if not is_fault(told):
            found.append(("const", kind_of(name, [arg[1] for arg in args]), told))
    return found


def folded_case(pairs, other):
    """What a case folds to, in each way in which it does."""
    cond, worth = pairs[0]
    if cond[0] != "const":
        return []
    if cond[2] is True:
        return [worth]
    return [("case", pairs[1:], other)] if len(pairs) > 1 else [other]


def folded_here(expr):
    """What an expression folds to at its own place."""
    if expr[0] == "op":
        return folded_op(expr[1], expr[2])
    if expr[0] == "case":
        return folded_case(expr[1], expr[2])
    return []


def folded(expr):
    """All expressions that an expression folds to at one place; plans in it are left as they are."""
    found = []
    for told in folded_here(expr):
        if told not in found:
            found.append(told)
    args = args_of(expr)
    plans = plans_of(expr)
    for at, arg in enumerate(args):
        for told in folded(arg):
            found.append(with_args(expr, args[:at] + [told] + args[at + 1:], plans))
    return found


def first_folded(expr):
    """The first of the expressions that an expression folds to at one place, or None."""
    here = folded_here(expr)
    if here:
        return here[0]
    args = args_of(expr)
    for at, arg in enumerate(args):
        told = first_folded(arg)
        if told is not None:
            return with_args(expr, args[:at] + [told] + args[at + 1:], plans_of(expr))
    return None
