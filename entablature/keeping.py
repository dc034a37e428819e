"""The parts of a plan that is kept, and the changes of their rows.

A change of rows is a dict from rows to how many times more they are there; no row is there 0 times more.
"""

from entablature.join_steps import equal_pairs
from entablature.operators import sized
from entablature.prepared import prepared


def add_to(counts, row, many):
    """Counts a row so many times more."""
    told = counts.get(row, 0) + many
    if told != 0:
        counts[row] = told
    elif row in counts:
        del counts[row]


class Looking:
    """How many rows were looked at."""

    def __init__(self):
        self.many = 0


class Scanned:
    """The rows of a table."""

    def __init__(self, plan, looking):
        self.table = plan[1]
        self.looking = looking

    def step(self, change, is_first):
        """The change of the rows by a change of tables; for the first one there were no rows."""
        told = change.get(self.table, {})
        self.looking.many += len(told)
        return {row: told[row] for row in told}


class Written:
    """The rows that stand in the plan."""

    def __init__(self, plan):
        self.rows = plan[2]

    def step(self, change, is_first):
        """The change of the rows."""
        told = {}
        if is_first:
            for row in self.rows:
                add_to(told, row, 1)
        return told


class Chosen:
    """The rows for which a condition is True."""

    def __init__(self, plan, below):
        self.cond = prepared(plan[1])
        self.below = below

    def step(self, change, is_first):
        """The change of the rows."""
        cond = self.cond
        return {row: many for row, many in self.below.step(change, is_first).items() if cond(row) is True}


class Formed:
    """For each row the values of some expressions."""

    def __init__(self, plan, below):
        self.exprs = [prepared(expr) for expr in plan[1]]
        self.below = below

    def step(self, change, is_first):
        """The change of the rows."""
        told = {}
        for row, many in self.below.step(change, is_first).items():
            add_to(told, tuple([expr(row) for expr in self.exprs]), many)
        return told


class United:
    """The rows of both inputs."""

    def __init__(self, inputs):
        self.inputs = inputs

    def step(self, change, is_first):
        """The change of the rows."""
        told = self.inputs[0].step(change, is_first)
        for row, many in self.inputs[1].step(change, is_first).items():
            add_to(told, row, many)
        return told


class Heap:
    """Rows with how often they are there, put together by the values of some expressions."""

    def __init__(self, exprs, looking):
        self.exprs = [prepared(expr) for expr in exprs]
        self.looking = looking
        self.groups = {}

    def key(self, row):
        """The values of the expressions for a row."""
        return tuple([expr(row) for expr in self.exprs])

    def add(self, row, many):
        """Counts a row so many times more."""
        key = self.key(row)
        group = self.groups.setdefault(key, {})
        add_to(group, row, many)
        if not group:
            del self.groups[key]

    def under(self, key):
        """The rows with such values, with how often they are there; nulls agree with nothing."""
        if None in key:
            return []
        found = list(self.groups.get(key, {}).items())
        self.looking.many += len(found)
        return found


class Paired:
    """The pairs of partners of two inputs."""

    def __init__(self, piece, inputs, looking):
        lefts, rights = equal_pairs(piece)
        self.cond = prepared(piece.plan[2])
        self.inputs = inputs
        self.left = Heap(lefts, looking)
        self.right = Heap(rights, looking)

    def step(self, change, is_first):
        """The change of the rows."""
        lefts = self.inputs[0].step(change, is_first)
        rights = self.inputs[1].step(change, is_first)
        cond = self.cond
        told = {}
        for row, many in lefts.items():
            for other, more in self.right.under(self.left.key(row)):
                if cond(row + other) is True:
                    add_to(told, row + other, many * more)
            self.left.add(row, many)
        for other, many in rights.items():
            for row, more in self.left.under(self.right.key(other)):
                if cond(row + other) is True:
                    add_to(told, row + other, many * more)
            self.right.add(other, many)
        return told


class Partnered:
    """The left rows that have a partner, or those that have none."""

    def __init__(self, piece, inputs, looking):
        lefts, rights = equal_pairs(piece)
        self.is_semi = piece.plan[1] == "semi"
        self.cond = prepared(piece.plan[2])
        self.inputs = inputs
        self.left = Heap(lefts, looking)
        self.right = Heap(rights, looking)
        # For each left row how many right rows are its partners, and how often it is there itself.
        self.partners = {}
        self.counts = {}

    def is_told(self, row):
        """Whether a left row is a row of the join."""
        return (self.partners[row] > 0) == self.is_semi

    def step(self, change, is_first):
        """The change of the rows."""
        lefts = self.inputs[0].step(change, is_first)
        rights = self.inputs[1].step(change, is_first)
        told = {}
        for row, many in lefts.items():
            self.change_left(row, many, told)
        before = {}
        for other, many in rights.items():
            self.change_right(other, many, before)
        for row, was_told in before.items():
            if self.is_told(row) != was_told:
                add_to(told, row, -self.counts[row] if was_told else self.counts[row])
        return told

    def change_left(self, row, many, told):
        """Counts a left row so many times more; told gets the change of the rows of the join."""
        if row not in self.partners:
            self.partners[row] = 0
            for other, more in self.right.under(self.left.key(row)):
                cond = self.cond
                if cond(row + other) is True:
                    self.partners[row] += more
        if self.is_told(row):
            add_to(told, row, many)
        self.left.add(row, many)
        add_to(self.counts, row, many)
        if row not in self.counts:
            del self.partners[row]

    def change_right(self, other, many, before):
        """Counts a right row so many times more; before gets whether its partners were told."""
        cond = self.cond
        for row, _ in self.left.under(self.right.key(other)):
            if cond(row + other) is True:
                if row not in before:
                    before[row] = self.is_told(row)
                self.partners[row] += many
        self.right.add(other, many)


class Compared:
    """distinct, except and meet."""

    def __init__(self, plan, inputs, looking):
        self.word = plan[0]
        self.inputs = inputs
        self.looking = looking
        self.counts = {}

    def times(self, counts):
        """How often a row is told that the inputs have so often."""
        left, right = counts
        if self.word == "distinct":
            return min(left, 1)
        return max(left - right, 0) if self.word == "except" else min(left, right)

    def step(self, change, is_first):
        """The change of the rows."""
        told = {}
        for side, below in enumerate(self.inputs):
            for row, many in below.step(change, is_first).items():
                self.looking.many += 1
                counts = self.counts.setdefault(row, [0, 0])
                was = self.times(counts)
                counts[side] += many
                add_to(told, row, self.times(counts) - was)
                if counts == [0, 0]:
                    del self.counts[row]
        return told


class Gathered:
    """What is kept of a group: how many rows it has, and for each agg its values with how often they are there."""

    def __init__(self, aggs):
        self.many = 0
        self.worths = [{} for _ in aggs]
        self.told = None


def worked_out(agg, many, values):
    """What an agg tells of a group with so many rows; values are those of its argument, with how often each one is."""
    name, distinct, _ = agg
    if name == "rows":
        return many
    if name in ("count", "sum", "avg"):
        count = len(values) if distinct else sum(list(values.values()))
        if name == "count":
            return count
        if count == 0:
            return None
        total = sum([x if distinct else x * times for x, times in values.items()])
        return sized(total) if name == "sum" else total // count
    if not values:
        return None
    if name in ("min", "every"):
        return min(list(values))
    return max(list(values))


class Grouped:
    """One row for each group."""

    def __init__(self, plan, below, looking):
        self.keys_ready = [prepared(key) for key in plan[1]]
        self.aggs = plan[2]
        self.args_ready = [None if agg[2] is None else prepared(agg[2]) for agg in plan[2]]
        self.below = below
        self.looking = looking
        self.groups = {}

    def count_row(self, key, row, many):
        """Counts a row of a group so many times more."""
        group = self.groups[key]
        group.many += many
        for arg, values in zip(self.args_ready, group.worths):
            if arg is not None:
                x = arg(row)
                if x is not None:
                    add_to(values, x, many)

    def row_of(self, key):
        """The row of a group."""
        group = self.groups[key]
        self.looking.many += 1 + sum([len(values) for values in group.worths])
        return key + tuple([worked_out(agg, group.many, values) for agg, values in zip(self.aggs, group.worths)])

    def step(self, change, is_first):
        """The change of the rows."""
        touched = {(): True} if is_first and not self.keys_ready else {}
        for key in touched:
            self.groups[key] = Gathered(self.aggs)
        rows = self.below.step(change, is_first)
        for row, many in rows.items():
            key = tuple([expr(row) for expr in self.keys_ready])
            if key not in self.groups:
                self.groups[key] = Gathered(self.aggs)
            self.count_row(key, row, many)
            touched[key] = True
        told = {}
        for key in touched:
            group = self.groups[key]
            if group.told is not None:
                add_to(told, group.told, -1)
            if group.many == 0 and self.keys_ready:
                del self.groups[key]
            else:
                group.told = self.row_of(key)
                add_to(told, group.told, 1)
        return told


def part_of(piece, looking):
    """The part that is kept for a plan that can be kept."""
    plan = piece.plan
    word = plan[0]
    if word == "scan":
        return Scanned(plan, looking)
    if word == "rows":
        return Written(plan)
    inputs = [part_of(below, looking) for below in piece.inputs]
    if word == "where":
        return Chosen(plan, inputs[0])
    if word == "select":
        return Formed(plan, inputs[0])
    if word == "union":
        return United(inputs)
    if word == "group":
        return Grouped(plan, inputs[0], looking)
    if word != "join":
        return Compared(plan, inputs, looking)
    return Paired(piece, inputs, looking) if plan[1] == "inner" else Partnered(piece, inputs, looking)
