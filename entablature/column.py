"""Columns packed into lists of numbers."""

from entablature.errors import BadForm, BadKind
from entablature.longs import Source, write_long, write_signed, write_value
from entablature.value import KINDS, is_value

MOST_VALUES = 256
PLAIN = 0
RUNS = 1
BOOK = 2
STEPS = 3
NEAR = 4


def can_pack(kind, packing):
    """Whether a packing is of use for a kind."""
    return kind == "int" or packing in (PLAIN, RUNS, BOOK)


def is_packing(x):
    """Whether something is the number of a packing."""
    return type(x) is int and PLAIN <= x <= NEAR


def is_column(values, kind):
    """Whether these are values of a kind, not too many."""
    if type(values) not in (list, tuple) or len(values) > MOST_VALUES or kind not in KINDS:
        return False
    return all([is_value(x, kind) for x in values])


def mask(values):
    """The numbers that tell which values are null."""
    out = []
    for at in range(0, len(values), 8):
        octet = 0
        weight = 1
        for x in values[at:at + 8]:
            if x is None:
                octet += weight
            weight *= 2
        out.append(octet)
    return out


def write_plain(values, kind, out):
    """Each value by itself."""
    for x in values:
        write_value(x, kind, out)


def runs_of(values):
    """Pairs of a value and how often it stands there in a row."""
    runs = []
    for x in values:
        if runs and runs[-1][0] == x:
            runs[-1] = (x, runs[-1][1] + 1)
        else:
            runs.append((x, 1))
    return runs


def write_runs(values, kind, out):
    """Runs of equal values."""
    runs = runs_of(values)
    write_long(len(runs), out)
    for x, many in runs:
        write_long(many, out)
        write_value(x, kind, out)


def write_book(values, kind, out):
    """The different values, then where each value stands among them."""
    book = sorted({x for x in values})
    write_long(len(book), out)
    places = {}
    for at, x in enumerate(book):
        write_value(x, kind, out)
        places[x] = at
    for x in values:
        write_long(places[x], out)


def write_steps(values, out):
    """The first value, then the differences."""
    before = 0
    for x in values:
        write_signed(x - before, out)
        before = x


def write_near(values, out):
    """The least value, then how far each one is from it."""
    if not values:
        return
    low = min(values)
    write_signed(low, out)
    for x in values:
        write_long(x - low, out)


def write_packed(values, kind, packing, out):
    """The values that are not null, by a packing."""
    if packing == PLAIN:
        write_plain(values, kind, out)
    elif packing == RUNS:
        write_runs(values, kind, out)
    elif packing == BOOK:
        write_book(values, kind, out)
    elif packing == STEPS:
        write_steps(values, out)
    else:
        write_near(values, out)


def written(values, kind, packing):
    """A column that surely is one, by a packing that can be used."""
    out = [KINDS.index(kind), packing]
    write_long(len(values), out)
    out.extend(mask(values))
    write_packed([x for x in values if x is not None], kind, packing, out)
    return out


def packed(values, kind, packing):
    """A column as a list of numbers."""
    if not is_column(values, kind) or not is_packing(packing):
        raise BadForm()
    if not can_pack(kind, packing):
        raise BadKind(-1)
    return written(values, kind, packing)


def best(values, kind):
    """The packing with the fewest numbers, the least of several."""
    if not is_column(values, kind):
        raise BadForm()
    found = PLAIN
    fewest = -1
    for packing in range(PLAIN, NEAR + 1):
        if can_pack(kind, packing):
            many = len(written(values, kind, packing))
            if fewest < 0 or many < fewest:
                found = packing
                fewest = many
    return found


def read_runs(source, kind, many):
    """The values of runs."""
    values = []
    for _ in range(read_count(source, many)):
        length = source.long_number()
        if length > many - len(values):
            raise BadForm()
        x = source.value(kind)
        values.extend([x] * length)
    return values


def read_count(source, many):
    """A number of runs or of different values, which is at most that of the values."""
    count = source.long_number()
    if count > many:
        raise BadForm()
    return count


def read_book(source, kind, many):
    """The values of a book."""
    book = [source.value(kind) for _ in range(read_count(source, many))]
    places = source.long_numbers(many)
    if max(places, default=-1) >= len(book):
        raise BadForm()
    return [book[at] for at in places]


def read_steps(source, many):
    """The values of steps."""
    values = []
    before = 0
    for step in source.all_signed(many):
        before = before + step
        values.append(before)
    return values


def read_near(source, many):
    """The values that are told by how far they are from the least one."""
    if many == 0:
        return []
    low = source.signed()
    return [low + far for far in source.long_numbers(many)]


def read_values(source, kind, packing, many):
    """The values that are not null."""
    if packing == PLAIN:
        return source.all_signed(many) if kind == "int" else [source.value(kind) for _ in range(many)]
    if packing == RUNS:
        return read_runs(source, kind, many)
    if packing == BOOK:
        return read_book(source, kind, many)
    if packing == STEPS:
        return read_steps(source, many)
    return read_near(source, many)


def read_mask(source, many):
    """For each value whether it is null."""
    nulls = []
    while len(nulls) < many:
        octet = source.octet()
        if octet == 0:
            nulls.extend([False] * min(8, many - len(nulls)))
            continue
        for _ in range(min(8, many - len(nulls))):
            nulls.append(octet % 2 == 1)
            octet = octet // 2
    return nulls


def read_column(data):
    """What a list of numbers would have been packed from; whether it is just so is not looked at."""
    source = Source(data)
    place = source.octet()
    packing = source.octet()
    if place >= len(KINDS) or not is_packing(packing):
        raise BadForm()
    kind = KINDS[place]
    nulls = read_mask(source, read_count(source, MOST_VALUES))
    told = read_values(source, kind, packing, len(nulls) - nulls.count(True))
    if len(told) == len(nulls):
        return kind, packing, told
    values = []
    at = 0
    for empty in nulls:
        if empty:
            values.append(None)
        elif at >= len(told):
            raise BadForm()
        else:
            values.append(told[at])
            at += 1
    return kind, packing, values


def is_octet(x):
    """Whether something is a number from 0 to 255."""
    return type(x) is int and 0 <= x <= 255


def unpacked(data):
    """The kind, the packing and the values of a packed column."""
    if type(data) is not list or not all([is_octet(x) for x in data]):
        raise BadForm()
    kind, packing, values = read_column(data)
    # What packs into another list was not packed: this finds every needless or wrong number at once.
    if not is_column(values, kind) or not can_pack(kind, packing) or written(values, kind, packing) != data:
        raise BadForm()
    return kind, packing, values
