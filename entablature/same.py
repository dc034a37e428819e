"""Whether plain values are the same; a truth value is no whole number."""


def is_same(a, b):
    """Whether two plain values are equal in all their parts and their kinds."""
    if type(a) is type(b):
        if type(a) is tuple:
            return len(a) == len(b) and all([is_same(one, other) for one, other in zip(a, b)])
        return a == b
    return False
