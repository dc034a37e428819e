"""Trees without places, so that trees that differ in places alone are equal."""


def literal(worth):
    """A literal as it is written, so that 1 and TRUE differ."""
    if worth is None:
        return "NULL"
    if type(worth) is bool:
        return "TRUE" if worth else "FALSE"
    if type(worth) is int:
        return str(worth)
    return "'" + worth.replace("'", "''") + "'"


def bare(tree):
    """A tree without its places; literals hold their texts."""
    if type(tree) is not tuple or len(tree) == 0:
        return tree
    if type(tree[0]) is not str:
        return tuple([bare(part) for part in tree])
    if len(tree) == 2 and tree[0] != "all":
        # An edge of a frame: it has no place.
        return tree
    if tree[0] == "lit" and len(tree) == 3 and type(tree[1]) is not tuple:
        return ("lit", literal(tree[1]))
    return tuple([bare(part) for part in tree[:-1]])
