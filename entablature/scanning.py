"""Scans: segments are left out by their bounds, or unpacked by the workers."""

from entablature.bound import may_hold
from entablature.facts import safe
from entablature.flow import Flow
from entablature.plan import parts
from entablature.store import segment_rows

COMPARING = ("eq", "ne", "lt", "le", "gt", "ge")


def comparisons(cond, width):
    """The parts of a safe condition that compare a column with a const: the operator, the column and the value."""
    if not safe(cond, (False,) * width):
        return []
    found = []
    for part in parts(cond):
        if part[0] == "op" and part[1] in COMPARING and part[2][0][0] == "col" and part[2][1][0] == "const":
            found.append((part[1], part[2][0][1], part[2][1][2]))
    return found


class Worker:
    """Unpacks some of the segments, one after the other."""

    def __init__(self, schema):
        self.schema = schema
        self.left = []
        self.rows = []
        self.at = 0

    def is_over(self):
        """Whether there is nothing left to do."""
        return self.at >= len(self.rows) and not self.left

    def next_rows(self, meter):
        """The next rows, as many as are handed on at once."""
        if self.at >= len(self.rows):
            self.rows = segment_rows(self.schema, self.left.pop())
            self.at = 0
            meter.unpacked += 1
        low = self.at
        self.at += meter.batch
        return self.rows[low:self.at]


class Scan(Flow):
    """The rows of a table for which a condition is True, if there is one."""

    def __init__(self, job, running):
        super().__init__(job, [])
        self.schema, self.segments = job.tables[running[1]]
        self.width = len(self.schema[1])
        self.cond = None if running[2] is None else job.ready(running[2])
        self.bounds = [] if running[2] is None else comparisons(running[2], self.width)

    def is_left_out(self, segment):
        """Whether the bounds of a segment tell that no row of it is kept."""
        for name, at, worth in self.bounds:
            if not may_hold(name, segment[1][at], worth):
                return True
        return False

    def go(self):
        """Hands on the rows of all segments, worker by worker as the turns tell."""
        workers = [Worker(self.schema) for _ in range(self.meter.workers)]
        many = 0
        for segment in reversed(self.segments):
            if self.is_left_out(segment):
                self.meter.skipped += 1
            else:
                workers[many].left.append(segment)
                many = many + 1 if many + 1 < len(workers) else 0
        while True:
            left = [worker for worker in workers if not worker.is_over()]
            if not left:
                break
            number = int(self.meter.turn()) % len(left)
            self.keep(left[number].next_rows(self.meter))
        self.finish()

    def keep(self, rows):
        """Hands on those of some rows for which the condition is True."""
        cond = self.cond
        for row in rows:
            told = True if cond is None else cond(row)
            if told is True:
                self.emit(row)
            else:
                self.note(told)
