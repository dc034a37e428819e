"""The operators that bring rows together that are alike."""

from entablature.aggregate import aggregated
from entablature.flow import Flow
from entablature.meter import Room, Shelf
from entablature.sorter import Sorter, values_key
from entablature.tally import AggTally
from entablature.value import order_key


class Counted(Flow):
    """distinct, except and meet: a table of different rows with how often each input has them.

    Rows for which the table has no room are written to the spool, and get a table of their own later.
    """

    def __init__(self, job, running, inputs):
        super().__init__(job, inputs)
        self.word = running[0]
        self.table = {}
        self.later = []

    def take(self, rows, side):
        """Takes a batch."""
        for row in rows:
            self.note_all(row)
            self.count(row, side)

    def count(self, row, side):
        """Counts a row of an input."""
        if row in self.table:
            self.table[row][side] += 1
        elif len(self.table) < self.meter.budget:
            self.table[row] = [1, 0] if side == 0 else [0, 1]
            self.meter.holds(len(self.table))
        else:
            self.later.append((row, side))
            self.meter.spooled += 1

    def many(self, left, right):
        """How often a row is told that the inputs have so often."""
        if self.word == "distinct":
            return 1
        return max(left - right, 0) if self.word == "except" else min(left, right)

    def give(self):
        """Hands on the rows of the table, and of the tables to come."""
        while self.table:
            for row, (left, right) in self.table.items():
                for _ in range(self.many(left, right)):
                    self.emit(row)
            later = self.later
            self.table = {}
            self.later = []
            for row, side in later:
                self.count(row, side)


class Grouping(Flow):
    """What both operators for groups share: a row becomes a line of the keys and the arguments of the aggs."""

    def __init__(self, job, running, inputs):
        super().__init__(job, inputs)
        self.keys_ready = [job.ready(key) for key in running[1]]
        self.aggs = running[2]
        self.args_ready = [None if agg[2] is None else job.ready(agg[2]) for agg in running[2]]

    def take(self, rows, side):
        """Takes a batch."""
        for row in rows:
            key = tuple([expr(row) for expr in self.keys_ready])
            self.note_all(key)
            self.line(key, tuple([None if expr is None else expr(row) for expr in self.args_ready]))


class GroupTable(Grouping):
    """A table of the groups; what there is no room for is written to the spool, and comes into a later table.

    Each value of an agg with distinct would have to be held, so this is for aggs without.
    """

    def __init__(self, job, running, inputs):
        super().__init__(job, running, inputs)
        self.table = {}
        self.later = []
        if not self.keys_ready:
            self.begin(())

    def begin(self, key):
        """Begins a group."""
        self.table[key] = [AggTally(agg[0], False) for agg in self.aggs]
        self.meter.holds(len(self.table))

    def line(self, key, args):
        """Takes a line."""
        if key not in self.table:
            if len(self.table) >= self.meter.budget:
                self.later.append((key, args))
                self.meter.spooled += 1
                return
            self.begin(key)
        for tally, x in zip(self.table[key], args):
            tally.add(x)

    def give(self):
        """Hands on the groups of the table, and of the tables to come."""
        while self.table:
            for key, tallies in self.table.items():
                self.emit(key + tuple([tally.told() for tally in tallies]))
            later = self.later
            self.table = {}
            self.later = []
            for key, args in later:
                self.line(key, args)


def answers(tallies):
    """What each of some tallies tells."""
    return {at: tally.told() for at, tally in tallies.items()}


def together(first, second):
    """The answers of both."""
    told = dict(first)
    told.update(second)
    return told


class GroupSorter(Grouping):
    """Groups out of lines in the order of their keys."""

    def __init__(self, job, running, inputs):
        super().__init__(job, running, inputs)
        self.room = Room(job.meter)
        self.shelf = Shelf(self.room)

    def line(self, key, args):
        """Takes a line."""
        self.shelf.put((key, args))

    def give(self):
        """Hands on the groups."""
        if self.room.has_spilled:
            self.room.spill()
            self.give_written()
            return
        groups = {}
        if not self.keys_ready:
            groups[()] = []
        for key, args in sorted(self.shelf.told(), key=lambda line: values_key(line[0])):
            groups.setdefault(key, []).append(args)
        for key, lines in groups.items():
            told = [aggregated(agg[0], agg[1], [one[at] for one in lines]) for at, agg in enumerate(self.aggs)]
            self.emit(key + tuple(told))

    def give_written(self):
        """Hands on the groups of lines in the spool: these are put into an order for each agg with distinct."""
        places = [at for at, agg in enumerate(self.aggs) if agg[1]]
        others = [at for at, agg in enumerate(self.aggs) if not agg[1]]
        told = self.groups_by(places[:1], others)
        for at in places[1:]:
            more = self.groups_by([at], [])
            told = [(one[0], together(one[1], other[1])) for one, other in zip(told, more)]
        for key, found in told:
            self.emit(key + tuple([found[at] for at in range(len(self.aggs))]))

    def groups_by(self, places, others):
        """Pairs of a key and what some aggs tell, in the order of keys; at most one place has an agg with distinct.

        They are written to the spool, group by group.
        """
        sorter = Sorter(self.room)
        for key, args in self.shelf.told():
            sorter.put((values_key(key), tuple([order_key(args[at]) for at in places])), (key, args))
        written = []
        pairs = sorter.told()
        low = 0
        while low < len(pairs):
            key = pairs[low][1][0]
            tallies = {at: AggTally(self.aggs[at][0], self.aggs[at][1]) for at in places + others}
            while low < len(pairs) and pairs[low][1][0] == key:
                for at, tally in tallies.items():
                    tally.add(pairs[low][1][1][at])
                low += 1
            written.append((key, answers(tallies)))
            self.meter.spooled += 1
        return written
