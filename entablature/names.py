"""Names and reserved words."""

SMALL = "abcdefghijklmnopqrstuvwxyz"
FIGURES = "0123456789"
MOST_SIGNS = 20

RESERVED = {
    "select": True, "distinct": True, "from": True, "where": True, "group": True, "by": True, "having": True,
    "order": True, "limit": True, "offset": True, "as": True, "join": True, "inner": True, "left": True,
    "right": True, "full": True, "cross": True, "on": True, "union": True, "intersect": True, "except": True,
    "all": True, "values": True, "with": True, "and": True, "or": True, "not": True, "is": True, "null": True,
    "true": True, "false": True, "in": True, "exists": True, "between": True, "like": True, "case": True,
    "when": True, "then": True, "else": True, "end": True, "asc": True, "desc": True, "nulls": True,
    "first": True, "last": True, "over": True, "partition": True, "rows": True, "preceding": True,
    "following": True, "unbounded": True, "current": True, "row": True,
}


def is_reserved(word):
    """Whether a word of letters, in whatever case, is a reserved one."""
    return word.lower() in RESERVED


def is_name(x):
    """Whether something is a name of a table, a column or the like."""
    if type(x) is not str or not 1 <= len(x) <= MOST_SIGNS or x[0] not in SMALL:
        return False
    for sign in x:
        if sign not in SMALL and sign not in FIGURES and sign != "_":
            return False
    return x not in RESERVED
