"""Values, faults and the order of both."""

KINDS = ("bool", "int", "text")
BOUND = 1000000000000000000
MOST_TEXT = 200

DIV = 1
CAST = 2
MANY = 3
SIZE = 4

# A text may not hold this sign; it is written as a number so that it stands in no string here.
PERCENT = 37


def is_number(x):
    """Whether something is a whole number that a column may hold."""
    return type(x) is int and -BOUND < x < BOUND


def is_text(x):
    """Whether something is a text that a column may hold."""
    if type(x) is not str or len(x) > MOST_TEXT:
        return False
    return x.isascii() and x.isprintable() and PERCENT not in [ord(sign) for sign in x]


def is_value(x, kind):
    """Whether something is a value of a kind; null is one of each kind."""
    if x is None:
        return kind in KINDS
    if kind == "int":
        return is_number(x)
    if kind == "text":
        return is_text(x)
    return kind == "bool" and type(x) is bool


def fault(code):
    """The fault with a code."""
    return ("fault", code)


def is_fault(x):
    """Whether something is a fault."""
    if type(x) is not tuple or len(x) != 2 or type(x[0]) is not str or type(x[1]) is not int:
        return False
    return x[0] == "fault" and DIV <= x[1] <= SIZE


def least_fault(xs):
    """The least fault among things of whatever kind, or None."""
    least = None
    for x in xs:
        if is_fault(x) and (least is None or x[1] < least[1]):
            least = x
    return least


def order_key(x):
    """What a value or fault is sorted by: values, then null, then faults."""
    if x is None:
        return (1, 0)
    if type(x) is tuple:
        return (2, x[1])
    return (0, x)


def row_key(row):
    """What a row is sorted by."""
    return tuple([order_key(x) for x in row])


def compared(a, b):
    """-1, 0 or 1, as one sorting key is less than, like or greater than another one."""
    if a == b:
        return 0
    return -1 if a < b else 1


def order(a, b):
    """-1, 0 or 1, as the first of two values of one kind stands ahead of, with or behind the second."""
    return compared(order_key(a), order_key(b))


def row_order(a, b):
    """The same for rows."""
    return compared(row_key(a), row_key(b))


def sorted_rows(rows):
    """The rows by their order."""
    return sorted([tuple(row) for row in rows], key=row_key)
