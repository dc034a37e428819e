"""The operators that put rows into an order: top and window."""

from entablature.flow import Flow
from entablature.meter import Room
from entablature.sorter import Sorter, items_key, values_key
from entablature.windows import part_values


class Top(Flow):
    """Rows in the order of some items, without the first ones and at most so many."""

    def __init__(self, job, running, inputs):
        super().__init__(job, inputs)
        self.order = running[1]
        self.exprs = [job.ready(item[0]) for item in running[1]]
        self.limit = running[2]
        self.offset = running[3]
        self.sorter = Sorter(Room(job.meter))

    def take(self, rows, side):
        """Takes a batch."""
        for row in rows:
            values = [expr(row) for expr in self.exprs]
            self.note_all(row)
            self.note_all(values)
            if self.fault is None:
                self.sorter.put(items_key(values, self.order, row), row)

    def give(self):
        """Hands on the rows."""
        told = self.sorter.told()[self.offset:]
        if self.limit is not None:
            told = told[:self.limit]
        for _, row in told:
            self.emit(row)


class Function:
    """A function of a window, made ready."""

    def __init__(self, job, fun):
        self.fun = fun
        self.arg = None if fun[1] is None else job.ready(fun[1])
        self.parts = [job.ready(expr) for expr in fun[2]]
        self.exprs = [job.ready(item[0]) for item in fun[3]]

    def worked(self, row):
        """The values of the partition and of the order for a row."""
        return [expr(row) for expr in self.parts], [expr(row) for expr in self.exprs]

    def key(self, row, number):
        """What a row is sorted by; the numbers of rows put equal ones into one order."""
        part, order = self.worked(row)
        return (values_key(part), items_key(order, self.fun[3], row), number)

    def told(self, part):
        """What the function tells for each row of a part; part holds pairs of a sorting key and a row."""
        groups = []
        before = None
        for key, _ in part:
            if not groups:
                groups.append(0)
            else:
                groups.append(groups[-1] if key[1][0] == before else groups[-1] + 1)
            before = key[1][0]
        arg = self.arg
        args = [None if arg is None else arg(row) for _, (row, _, _) in part]
        return part_values(self.fun, args, groups)


class Window(Flow):
    """Rows with what some functions tell of their parts; the rows are put into an order for one after the other."""

    def __init__(self, job, running, inputs):
        super().__init__(job, inputs)
        self.functions = [Function(job, fun) for fun in running[1]]
        self.room = Room(job.meter)
        self.sorter = Sorter(self.room)
        self.number = 0

    def take(self, rows, side):
        """Takes a batch."""
        for row in rows:
            self.note_all(row)
            for function in self.functions:
                part, order = function.worked(row)
                self.note_all(part)
                self.note_all(order)
            self.number += 1
            if self.fault is None:
                self.put(self.sorter, 0, (row, self.number, ()))

    def put(self, sorter, at, line):
        """Puts a line into a sorter by the order of the function at a place."""
        key = self.functions[at].key(line[0], line[1]) if at < len(self.functions) else line[1]
        sorter.put(key, line)

    def give(self):
        """Hands on the rows."""
        sorter = self.sorter
        for at in range(len(self.functions)):
            sorter = self.behind(at, sorter)
        for _, (row, _, told) in sorter.told():
            self.emit(row + told)

    def behind(self, at, sorter):
        """The sorter of the next function, with the lines and what the function at a place tells of them."""
        following = Sorter(self.room)
        pairs = sorter.told()
        low = 0
        while low < len(pairs):
            high = low
            while high < len(pairs) and pairs[high][0][0] == pairs[low][0][0]:
                high += 1
            part = pairs[low:high]
            sorter.let_go(len(part))
            if self.room.used + len(part) > self.meter.budget:
                self.room.spill()
            self.meter.holds(self.room.used + len(part))
            for pair, x in zip(part, self.functions[at].told(part)):
                row, number, told = pair[1]
                self.put(following, at + 1, (row, number, told + (x,)))
            low = high
        return following
