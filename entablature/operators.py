"""The operators of expressions: their kinds and what they answer."""

from entablature.value import BOUND, CAST, DIV, KINDS, MOST_TEXT, SIZE, fault, is_fault, least_fault
from entablature.names import FIGURES

MOST_FIGURES = 18

# For each operator that asks for certain kinds: the kind of its answer, and those of its arguments.
FIXED = {
    "add": ("int", ("int", "int")), "sub": ("int", ("int", "int")), "mul": ("int", ("int", "int")),
    "div": ("int", ("int", "int")), "mod": ("int", ("int", "int")),
    "neg": ("int", ("int",)), "abs": ("int", ("int",)),
    "cat": ("text", ("text", "text")), "size": ("int", ("text",)),
    "upper": ("text", ("text",)), "lower": ("text", ("text",)), "part": ("text", ("text", "int", "int")),
    "like": ("bool", ("text", "text")), "number": ("int", ("text",)), "words": ("text", ("int",)),
    "not": ("bool", ("bool",)), "and": ("bool", ("bool", "bool")), "or": ("bool", ("bool", "bool")),
}

# The operators of two arguments of one kind: the kind of the answer, or None if it is that kind.
ALIKE = {
    "eq": "bool", "ne": "bool", "lt": "bool", "le": "bool", "gt": "bool", "ge": "bool", "same": "bool",
    "coalesce": None, "nullif": None, "most": None, "least": None,
}

FAULTY = ("add", "sub", "mul", "div", "mod", "cat", "number")


def kind_of(name, kinds):
    """The kind of an operator's answer, or None if there is none for such arguments."""
    if name in FIXED:
        kind, takes = FIXED[name]
        return kind if tuple(kinds) == takes else None
    if name in ALIKE:
        if len(kinds) != 2 or kinds[0] != kinds[1] or kinds[0] not in KINDS:
            return None
        return ALIKE[name] or kinds[0]
    if name == "isnull" and len(kinds) == 1 and kinds[0] in KINDS:
        return "bool"
    return None


def may_fault(name):
    """Whether an operator can give a fault where no argument is one."""
    return name in FAULTY


def is_strict(name):
    """Whether an operator answers null as soon as an argument is null."""
    return name in STRICT


def sized(n):
    """A number, or the fault if it is no value."""
    return n if -BOUND < n < BOUND else fault(SIZE)


def add(a, b):
    """The sum."""
    return sized(a + b)


def sub(a, b):
    """The difference."""
    return sized(a - b)


def mul(a, b):
    """The product."""
    return sized(a * b)


def div(a, b):
    """The quotient, rounded down."""
    return fault(DIV) if b == 0 else sized(a // b)


def mod(a, b):
    """The remainder that goes with the quotient."""
    return fault(DIV) if b == 0 else sized(a - b * (a // b))


def neg(a):
    """The number with the other sign."""
    return -a


def absolute(a):
    """The number without its sign."""
    return abs(a)


def eq(a, b):
    """Whether both are equal."""
    return a == b


def ne(a, b):
    """Whether they differ."""
    return a != b


def lt(a, b):
    """Whether the first is less."""
    return a < b


def le(a, b):
    """Whether the first is not greater."""
    return a <= b


def gt(a, b):
    """Whether the first is greater."""
    return a > b


def ge(a, b):
    """Whether the first is not less."""
    return a >= b


def cat(a, b):
    """Both texts joined."""
    return a + b if len(a) + len(b) <= MOST_TEXT else fault(SIZE)


def size(a):
    """The number of signs."""
    return len(a)


def upper(a):
    """The text in capital letters."""
    return a.upper()


def lower(a):
    """The text in small letters."""
    return a.lower()


def part(text, first, many):
    """The signs from a place on, counted from 1, as far as there are any."""
    return text[max(first, 1) - 1:max(first + many, 1) - 1]


def like(text, pattern):
    """Whether a text fits a pattern."""
    at = spot = 0
    # Where the last star stood, and how much of the text it takes so far.
    star = -1
    taken = 0
    while at < len(text):
        if spot < len(pattern) and pattern[spot] == "*":
            star = spot
            taken = at
            spot += 1
        elif spot < len(pattern) and pattern[spot] in ("?", text[at]):
            at += 1
            spot += 1
        elif star >= 0:
            taken += 1
            at = taken
            spot = star + 1
        else:
            return False
    return pattern[spot:] == "*" * (len(pattern) - spot)


def number(text):
    """The number that a text writes."""
    figures = text[1:] if text.startswith("-") else text
    if not 1 <= len(figures) <= MOST_FIGURES or not all([sign in FIGURES for sign in figures]):
        return fault(CAST)
    return int(text)


def words(n):
    """The number in figures."""
    return str(n)


def denied(a):
    """The other truth value."""
    return not a


def most(a, b):
    """The greater one."""
    return b if a < b else a


def least(a, b):
    """The lesser one."""
    return b if b < a else a


STRICT = {
    "add": add, "sub": sub, "mul": mul, "div": div, "mod": mod, "neg": neg, "abs": absolute,
    "eq": eq, "ne": ne, "lt": lt, "le": le, "gt": gt, "ge": ge,
    "cat": cat, "size": size, "upper": upper, "lower": lower, "part": part, "like": like,
    "number": number, "words": words, "not": denied, "most": most, "least": least,
}


def decided(args, deciding):
    """What "and" and "or" answer; deciding is the truth value that settles it whatever else stands there."""
    if deciding in args:
        return deciding
    if None in args:
        return None
    found = least_fault(args)
    return found if found is not None else not deciding


def isnull(a):
    """Whether an argument is null, or the fault that it is."""
    return a if is_fault(a) else a is None


def same(a, b):
    """Whether both are null or both are equal values, or the least fault."""
    found = least_fault((a, b))
    return found if found is not None else a == b


def nullif(a, b):
    """The first argument, or null where the second one is equal."""
    if a is None or is_fault(a):
        return a
    if is_fault(b):
        return b
    return None if a == b else a


def strict(name, args):
    """What a strict operator answers."""
    if None in args:
        return None
    for x in args:
        if type(x) is tuple:
            return least_fault(args)
    action = STRICT[name]
    return action(*args)


def worked(name, args):
    """What an operator answers for values and faults of kinds that fit."""
    if name in STRICT:
        return strict(name, args)
    if name == "and":
        return decided(args, False)
    if name == "or":
        return decided(args, True)
    if name == "isnull":
        return isnull(args[0])
    if name == "same":
        return same(args[0], args[1])
    if name == "nullif":
        return nullif(args[0], args[1])
    return args[0] if args[0] is not None else args[1]
