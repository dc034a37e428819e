"""Puts rows into the order that the items of an order tell."""


def ranked(places, columns, items):
    """Places by the items of an order, the first one first; the others keep the order in which they came.

    columns has for each item the value at each place; no value is a fault.
    """
    found = list(places)
    for at in range(len(items) - 1, -1, -1):
        found = ranked_by(found, columns[at], items[at][1], items[at][2])
    return found


def ranked_by(places, column, desc, nulls_first):
    """Places by one item."""
    nulls = [place for place in places if column[place] is None]
    pairs = [(column[place], place) for place in places if column[place] is not None]
    if desc:
        pairs = sorted(pairs, key=lambda pair: pair[0], reverse=True)
    else:
        pairs = sorted(pairs, key=lambda pair: pair[0])
    others = [place for _, place in pairs]
    return nulls + others if nulls_first else others + nulls
