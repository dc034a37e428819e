"""The operators that join two inputs."""

from entablature.flow import Flow
from entablature.meter import Room, Shelf
from entablature.sorter import Sorter, values_key


class Pairing(Flow):
    """A join: it works out the condition for pairs of rows."""

    def __init__(self, job, running, inputs):
        super().__init__(job, inputs)
        self.kind = running[1]
        self.cond = job.ready(running[2] if running[0] == "loop" else running[4])
        self.widths = (inputs[0].width, inputs[1].width)
        self.room = Room(job.meter)

    def tells_pairs(self):
        """Whether the pairs of partners are rows of the join."""
        return self.kind not in ("semi", "anti")

    def partners(self, row, others, spots, hits):
        """Whether a left row has a partner among the right rows at some spots; these are marked in hits."""
        cond = self.cond
        tells = self.tells_pairs()
        found = False
        for spot in spots:
            told = cond(row + others[spot])
            if told is True:
                found = True
                hits[spot] = True
                if tells:
                    self.emit(row + others[spot])
            else:
                self.note(told)
        return found

    def left_over(self, row, has_partner):
        """A left row of which it is known whether it has a partner."""
        if self.kind in ("left", "full"):
            if not has_partner:
                self.emit(row + (None,) * self.widths[1])
        elif self.kind in ("semi", "anti") and has_partner == (self.kind == "semi"):
            self.emit(row)

    def right_over(self, rows, hits):
        """Right rows of which it is known whether they have a partner."""
        if self.kind in ("right", "full"):
            for row, hit in zip(rows, hits):
                if not hit:
                    self.emit((None,) * self.widths[0] + row)


class Loop(Pairing):
    """A join by pairs: all left rows are held against one block of right rows after the other."""

    def __init__(self, job, running, inputs):
        super().__init__(job, running, inputs)
        self.shelves = (Shelf(self.room), Shelf(self.room))

    def take(self, rows, side):
        """Takes a batch."""
        for row in rows:
            self.shelves[side].put(row)

    def blocks(self, rows):
        """The right rows in blocks that can be held."""
        if not self.room.has_spilled:
            return [rows]
        most = self.meter.budget
        self.meter.holds(min(len(rows), most))
        return [rows[at:at + most] for at in range(0, len(rows), most)]

    def give(self):
        """Hands on the rows of the join."""
        if self.room.has_spilled:
            self.room.spill()
        left, right = self.shelves[0].told(), self.shelves[1].told()
        marks = [False for _ in left]
        for block in self.blocks(right):
            hits = [False for _ in block]
            self.meet(left, marks, block, hits)
            self.right_over(block, hits)
        for row, mark in zip(left, marks):
            self.left_over(row, mark)

    def meet(self, left, marks, block, hits):
        """Holds the left rows against a block of right ones."""
        spots = list(range(len(block)))
        for at, row in enumerate(left):
            if self.partners(row, block, spots, hits):
                marks[at] = True


class Hash(Loop):
    """A join by the values of expressions of both sides that are equal in each pair of partners."""

    def __init__(self, job, running, inputs):
        super().__init__(job, running, inputs)
        self.lefts = [job.ready(expr) for expr in running[2]]
        self.rights = [job.ready(expr) for expr in running[3]]

    def meet(self, left, marks, block, hits):
        """Holds the left rows against those of a block that have the same values."""
        places = {}
        for spot, row in enumerate(block):
            places.setdefault(tuple([expr(row) for expr in self.rights]), []).append(spot)
        for at, row in enumerate(left):
            key = tuple([expr(row) for expr in self.lefts])
            if None not in key and self.partners(row, block, places.get(key, []), hits):
                marks[at] = True


class Merge(Pairing):
    """A join of both sides in the order of such values."""

    def __init__(self, job, running, inputs):
        super().__init__(job, running, inputs)
        self.sorters = (Sorter(self.room), Sorter(self.room))
        self.exprs = ([job.ready(expr) for expr in running[2]], [job.ready(expr) for expr in running[3]])

    def take(self, rows, side):
        """Takes a batch."""
        exprs = self.exprs[side]
        for row in rows:
            self.sorters[side].put(values_key([expr(row) for expr in exprs]), row)

    def give(self):
        """Hands on the rows of the join."""
        if self.room.has_spilled:
            self.room.spill()
        left, right = self.sorters[0].told(), self.sorters[1].told()
        at = spot = 0
        while at < len(left) or spot < len(right):
            key = self.least_key(left, right, at, spot)
            end = end_of(left, at, key)
            behind = end_of(right, spot, key)
            self.meet([row for _, row in left[at:end]], [row for _, row in right[spot:behind]], has_null(key))
            at = end
            spot = behind

    def least_key(self, left, right, at, spot):
        """The lesser one of the next keys of both sides."""
        if at >= len(left):
            return right[spot][0]
        if spot >= len(right):
            return left[at][0]
        return min(left[at][0], right[spot][0])

    def meet(self, left, right, is_null):
        """Holds the rows of both sides that have one key against each other."""
        hits = [False for _ in right]
        spots = [] if is_null else list(range(len(right)))
        for row in left:
            self.left_over(row, self.partners(row, right, spots, hits))
        self.right_over(right, hits)


def has_null(key):
    """Whether there is a null among the values of a key."""
    return (1, 0) in key


def end_of(pairs, at, key):
    """The place behind the pairs with a key, from a place on."""
    while at < len(pairs) and pairs[at][0] == key:
        at += 1
    return at
