"""The entries of the log of a desk: their kinds, and the forms of their payloads."""

from entablature.errors import BadForm
from entablature.programs import is_tuple

TABLE = 1
PROGRAM = 2
LEVELS_SET = 3
COMMIT = 4
IMAGE = 5
VIEW = 6
FILLING = 7
RIGHT = 8
MOST_VERSION = 100000


def are_rows(x):
    """Whether something has the form of rows."""
    return type(x) is tuple and all([type(row) is tuple for row in x])


def are_changes(x):
    """Whether something has the form of the changes of tables."""
    if type(x) is not tuple or not all([is_tuple(part, 3) for part in x]):
        return False
    return all([type(name) is str and are_rows(gone) and are_rows(new) for name, gone, new in x])


def as_changes(changes):
    """Changes as tuples all through."""
    told = []
    for name, gone, new in changes:
        told.append((name, tuple([tuple(row) for row in gone]), tuple([tuple(row) for row in new])))
    return tuple(told)


def is_commit(x):
    """Whether something has the form of a commit."""
    if not is_tuple(x, 6) or type(x[0]) is not str or type(x[2]) is not str:
        return False
    return type(x[3]) is int and type(x[4]) is tuple and are_changes(x[5])


def are_pairs(x, kinds):
    """Whether something is a tuple of pairs whose parts are of such kinds, each a text or anything."""
    if type(x) is not tuple or not all([is_tuple(pair, 2) for pair in x]):
        return False
    for at, kind in enumerate(kinds):
        if kind == "text" and not all([type(pair[at]) is str for pair in x]):
            return False
    return True


def is_image(x):
    """Whether something has the form of an image."""
    if not is_tuple(x, 6) or type(x[0]) is not int or not 0 <= x[0] <= MOST_VERSION:
        return False
    _, schemas, rows, views, programs, rights = x
    if type(schemas) is not tuple or not is_tuple(rows, len(schemas)) or not all([are_rows(part) for part in rows]):
        return False
    if not are_pairs(views, ("text", "text")) or not are_pairs(programs, ("any", "text")):
        return False
    return are_pairs(rights, ("text", "any")) and len({pair[0] for pair in rights}) == len(rights)


def check_deed(kind, payload):
    """Refuses a payload that is of another form than entries of a kind have."""
    if kind == TABLE:
        right = is_tuple(payload, 1)
    elif kind in (PROGRAM, LEVELS_SET):
        right = type(payload) is tuple
    elif kind == COMMIT:
        right = is_commit(payload)
    elif kind == IMAGE:
        right = is_image(payload)
    elif kind == VIEW:
        right = are_pairs((payload,), ("text", "text"))
    elif kind == FILLING:
        right = are_changes(payload)
    else:
        right = kind == RIGHT and are_pairs((payload,), ("text", "any"))
    if not right:
        raise BadForm()
