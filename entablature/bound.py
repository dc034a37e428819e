"""Bounds of columns."""


def bound(values):
    """The least value, the greatest one, and the number of nulls."""
    told = [x for x in values if x is not None]
    nulls = len(values) - len(told)
    if not told:
        return (None, None, nulls)
    return (min(told), max(told), nulls)


def may_hold(name, bound, value):
    """Whether a column with this bound may hold a value for which the comparison with value is True."""
    low, high, _ = bound
    if value is None or low is None:
        return False
    if name == "eq":
        return low <= value <= high
    if name == "ne":
        return low != value or high != value
    if name == "lt":
        return low < value
    if name == "le":
        return low <= value
    if name == "gt":
        return high > value
    return high >= value
