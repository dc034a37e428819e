"""Another reading of what plans mean: slower, and written apart from the one of the program."""

import functools

from entablature.operators import worked


class Fails(Exception):
    def __init__(self, code):
        self.code = code


def is_fault(x):
    return isinstance(x, tuple) and len(x) == 2 and x[0] == "fault"


def fail_if(xs):
    codes = [x[1] for x in xs if is_fault(x)]
    if codes:
        raise Fails(min(codes))


def compare(a, b):
    def rank(x):
        return 1 if x is None else 2 if is_fault(x) else 0
    if rank(a) != rank(b):
        return -1 if rank(a) < rank(b) else 1
    if rank(a) == 1 or a == b:
        return 0
    return -1 if a < b else 1


def compare_rows(a, b):
    for x, y in zip(a, b):
        told = compare(x, y)
        if told:
            return told
    return 0


def ordered(rows):
    return sorted(rows, key=functools.cmp_to_key(compare_rows))


def by_items(row_keys, items):
    """Compares pairs (row, values of the items)."""
    def cmp(one, other):
        for at, (_, desc, first) in enumerate(items):
            a, b = one[1][at], other[1][at]
            if a is None and b is None:
                continue
            if a is None or b is None:
                ahead = (a is None) == first
                return -1 if ahead else 1
            told = compare(a, b)
            if told:
                return -told if desc else told
        return compare_rows(one[0], other[0])
    return sorted(row_keys, key=functools.cmp_to_key(cmp))


def value(e, row, outers, tables):
    word = e[0]
    if word == "col":
        return row[e[1]]
    if word == "outer":
        return outers[e[1] - 1][e[2]]
    if word == "const":
        return e[2]
    if word == "op":
        return worked(e[1], tuple([value(x, row, outers, tables) for x in e[2]]))
    if word == "case":
        for cond, x in e[1]:
            told = value(cond, row, outers, tables)
            if is_fault(told):
                return told
            if told is True:
                return value(x, row, outers, tables)
        return value(e[2], row, outers, tables)
    try:
        rows = bag(e[-1], [row] + outers, tables)
    except Fails as e2:
        return ("fault", e2.code)
    if word == "exists":
        return rows != []
    if word == "scalar":
        return None if not rows else ("fault", 3) if len(rows) > 1 else rows[0][0]
    left = value(e[1], row, outers, tables)
    told = [None if left is None or x is None else ("fault", min([y[1] for y in (left, x) if is_fault(y)]))
            if is_fault(left) or is_fault(x) else left == x for (x,) in rows]
    if True in told:
        return True
    if None in told:
        return None
    codes = [x[1] for x in told if is_fault(x)]
    return ("fault", min(codes)) if codes else False


def agg(name, distinct, xs):
    if name == "rows":
        return len(xs)
    xs = [x for x in xs if x is not None]
    codes = [x[1] for x in xs if is_fault(x)]
    if codes:
        return ("fault", min(codes))
    if distinct:
        xs = [x for at, x in enumerate(xs) if x not in xs[:at]]
    if name == "count":
        return len(xs)
    if not xs:
        return None
    if name == "sum":
        return sum(xs) if abs(sum(xs)) < 10 ** 18 else ("fault", 4)
    return {"avg": lambda: sum(xs) // len(xs), "min": lambda: min(xs), "max": lambda: max(xs),
            "every": lambda: False not in xs, "some": lambda: True in xs}[name]()


def both(left, right, outers, tables):
    found = []
    codes = []
    for plan in (left, right):
        try:
            found.append(bag(plan, outers, tables))
        except Fails as e:
            codes.append(e.code)
    if codes:
        raise Fails(min(codes))
    return found


def bag(p, outers, tables):
    word = p[0]
    if word == "scan":
        return [tuple(row) for row in tables[p[1]][1]]
    if word == "rows":
        return list(p[2])
    if word in ("join", "union", "except", "meet"):
        left, right = both(p[-2], p[-1], outers, tables)
        return join(p, left, right, outers, tables) if word == "join" else sets(word, left, right)
    rows = bag(p[-1], outers, tables)
    see = lambda e: [value(e, row, outers, tables) for row in rows]
    if word == "where":
        told = see(p[1])
        fail_if(told)
        return [row for row, x in zip(rows, told) if x is True]
    if word == "select":
        return [tuple([value(e, row, outers, tables) for e in p[1]]) for row in rows]
    if word == "group":
        return group(p, rows, outers, tables)
    if word == "distinct":
        fail_if([x for row in rows for x in row])
        return [row for at, row in enumerate(rows) if row not in rows[:at]]
    if word == "top":
        told = [see(item[0]) for item in p[1]]
        fail_if([x for part in told for x in part] + [x for row in rows for x in row])
        pairs = by_items([(row, [part[at] for part in told]) for at, row in enumerate(rows)], p[1])
        found = [row for row, _ in pairs][p[3]:]
        return found if p[2] is None else found[:p[2]]
    return window(p, rows, outers, tables)


def join(p, left, right, outers, tables):
    pairs = [(i, j, value(p[2], a + b, outers, tables)) for i, a in enumerate(left) for j, b in enumerate(right)]
    fail_if([x for _, _, x in pairs])
    partners = [(i, j) for i, j, x in pairs if x is True]
    lone_left = [a for i, a in enumerate(left) if i not in [x for x, _ in partners]]
    lone_right = [b for j, b in enumerate(right) if j not in [y for _, y in partners]]
    if p[1] == "semi":
        return [a for i, a in enumerate(left) if i in [x for x, _ in partners]]
    if p[1] == "anti":
        return lone_left
    found = [left[i] + right[j] for i, j in partners]
    if p[1] in ("left", "full"):
        found += [a + (None,) * width(p[4], tables) for a in lone_left]
    if p[1] in ("right", "full"):
        found += [(None,) * width(p[3], tables) + b for b in lone_right]
    return found


def width(p, tables):
    word = p[0]
    if word == "scan":
        return len(tables[p[1]][0][1])
    if word in ("rows", "select"):
        return len(p[1])
    if word == "group":
        return len(p[1]) + len(p[2])
    if word == "window":
        return width(p[2], tables) + len(p[1])
    if word == "join":
        return width(p[3], tables) + (0 if p[1] in ("semi", "anti") else width(p[4], tables))
    return width(p[-1], tables)


def group(p, rows, outers, tables):
    keys = [tuple([value(e, row, outers, tables) for e in p[1]]) for row in rows]
    fail_if([x for key in keys for x in key])
    found = []
    for key in ([()] if not p[1] else ordered(set(keys))):
        members = [row for row, other in zip(rows, keys) if other == key]
        told = [agg(name, distinct, members if arg is None else [value(arg, row, outers, tables) for row in members])
                for name, distinct, arg in p[2]]
        found.append(key + tuple(told))
    return found


def sets(word, left, right):
    if word == "union":
        return left + right
    fail_if([x for row in left + right for x in row])
    found = []
    for row in set(left + right):
        many, other = left.count(row), right.count(row)
        found += [row] * (min(many, other) if word == "meet" else max(many - other, 0))
    return found


def window(p, rows, outers, tables):
    rows = ordered(rows)
    numbers = range(len(rows))
    columns = {}
    for fun in p[1]:
        for e in list(fun[2]) + [item[0] for item in fun[3]]:
            columns[e] = [value(e, row, outers, tables) for row in rows]
    fail_if([x for told in columns.values() for x in told] + [x for row in rows for x in row])
    out = [list(row) for row in rows]
    for name, arg, partition, order, frame in p[1]:
        told = list(rows) if arg is None else [value(arg, row, outers, tables) for row in rows]
        for n in numbers:
            mine = [k for k in numbers if all([columns[e][k] == columns[e][n] for e in partition])]
            pairs = by_items([(rows[k] + (k,), [columns[item[0]][k] for item in order]) for k in mine], order)
            mine = [row[-1] for row, _ in pairs]
            place = mine.index(n)
            peers = [k for k in range(len(mine)) if all([columns[item[0]][mine[k]] == columns[item[0]][n] for item in order])]
            out[n].append(one(name, told, mine, place, peers, order, frame, columns))
    return [tuple(row) for row in out]


def one(name, told, mine, place, peers, order, frame, columns):
    if name == "place":
        return place + 1
    if name == "rank":
        return peers[0] + 1
    if name == "dense":
        return len({tuple([columns[item[0]][k] for item in order]) for k in mine[:peers[0]]}) + 1
    if name in ("lag", "lead"):
        other = place + (1 if name == "lead" else -1)
        return told[mine[other]] if 0 <= other < len(mine) else None
    low, high = 0, len(mine) - 1
    if frame is not None:
        low, high = [{"start": 0, "end": len(mine) - 1, "here": place, "before": place - many, "after": place + many}[word]
                     for word, many in frame]
    elif order:
        high = peers[-1]
    return agg(name, False, [told[mine[k]] for k in range(len(mine)) if low <= k <= high])


def answer(p, tables):
    try:
        rows = bag(p, [], tables)
        fail_if([x for row in rows for x in row])
    except Fails as e:
        return ("fault", e.code)
    below = p
    while below[0] == "select":
        below = below[2]
    return rows if below[0] == "top" else ordered(rows)
