"""Schemas of tables, and the rows that fit them."""

from entablature.errors import BadForm
from entablature.names import is_name
from entablature.value import KINDS, is_value

MOST_COLUMNS = 12
MOST_KEYS = 4


def is_column_form(x):
    """Whether something is the triple of a column."""
    if type(x) is not tuple or len(x) != 3:
        return False
    return is_name(x[0]) and type(x[1]) is str and x[1] in KINDS and type(x[2]) is bool


def are_columns(x):
    """Whether something is the columns of a schema."""
    if type(x) is not tuple or not 1 <= len(x) <= MOST_COLUMNS:
        return False
    if not all([is_column_form(column) for column in x]):
        return False
    return len({column[0] for column in x}) == len(x)


def is_key(x, columns):
    """Whether something is a key over some columns."""
    if type(x) is not tuple or len(x) == 0:
        return False
    before = -1
    for at in x:
        if type(at) is not int or not before < at < len(columns) or columns[at][2]:
            return False
        before = at
    return True


def are_keys(x, columns):
    """Whether something is the keys of a schema."""
    if type(x) is not tuple or len(x) > MOST_KEYS:
        return False
    if not all([is_key(key, columns) for key in x]):
        return False
    return len({key for key in x}) == len(x)


def check_schema(schema):
    """Refuses what is no schema."""
    if type(schema) is not tuple or len(schema) != 3:
        raise BadForm()
    name, columns, keys = schema
    if not is_name(name) or not are_columns(columns) or not are_keys(keys, columns):
        raise BadForm()


def fits(schema, row):
    """Whether a row fits a schema."""
    columns = schema[1]
    if type(row) not in (list, tuple) or len(row) != len(columns):
        return False
    for column, x in zip(columns, row):
        if not is_value(x, column[1]) or (x is None and not column[2]):
            return False
    return True
