"""Short ways to write expressions."""

YES, NO, NULL = ("const", "bool", True), ("const", "bool", False), ("const", "bool", None)


def col(at):
    return ("col", at)


def cols(*ats):
    return tuple([col(at) for at in ats])


def num(x):
    return ("const", "int", x)


def text(x):
    return ("const", "text", x)


def op(name, *args):
    return ("op", name, args)


def eq(a, b):
    """Whether two columns are equal."""
    return op("eq", col(a), col(b))
