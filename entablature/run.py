"""Runs a running plan over segments, with few rows held at one time."""

from entablature.branches import width_over
from entablature.flow import ListedRows, SelectFlow, Sink, UnionFlow, WhereFlow, faults_in
from entablature.gathering import Counted, GroupSorter, GroupTable
from entablature.joining import Hash, Loop, Merge
from entablature.meaning import Ground, has_order
from entablature.meter import Meter
from entablature.ordering import Top, Window
from entablature.prepared import Making
from entablature.running import below, fused
from entablature.scanning import Scan
from entablature.value import is_fault, sorted_rows

# What a running plan may hold, and hand on at once, where nobody asks for less.
MANY_ROWS = 100000
MANY_AT_ONCE = 256


class Job:
    """One run of a plan, or of a plan in an expression for certain rows around it."""

    def __init__(self, tables, meter, ground, outers):
        self.tables = tables
        self.meter = meter
        self.ground = ground
        self.outers = outers

    def ready(self, expr):
        """An expression as a function of its row; those of a plan in an expression have been numbered before."""
        told = expr if self.outers else self.ground.expr(expr)
        return Making(self.ground, self.outers, self.rows_within).ready(told)

    def rows_within(self, plan, around):
        """The rows of a plan in an expression, or the fault with which it fails."""
        return Job(self.tables, self.meter, self.ground, around).rows(fused(plan))

    def rows(self, running):
        """The rows of a running plan, or the fault with which it fails."""
        top = self.built(running)
        sink = Sink()
        top.out = sink
        top.go()
        return sink.told()

    def built(self, running):
        """The operator for a running plan, with those below it."""
        inputs = [self.built(part) for part in below(running)]
        flow = self.operator(running, inputs)
        if running[0] in ("loop", "hash", "merge"):
            both = inputs[0].width + inputs[1].width
            flow.width = inputs[0].width if running[1] in ("semi", "anti") else both
        elif running[0] == "sorted":
            flow.width = len(running[1]) + len(running[2])
        elif running[0] != "scan":
            flow.width = width_over(running, [part.width for part in inputs])
        return flow

    def operator(self, running, inputs):
        """The operator for a running plan over operators for its inputs."""
        word = running[0]
        if word == "scan":
            return Scan(self, running)
        if word == "rows":
            return ListedRows(self, running)
        if word == "where":
            return WhereFlow(self, running, inputs)
        if word == "select":
            return SelectFlow(self, running, inputs)
        if word == "union":
            return UnionFlow(self, inputs)
        if word == "loop":
            return Loop(self, running, inputs)
        if word == "hash":
            return Hash(self, running, inputs)
        if word == "merge":
            return Merge(self, running, inputs)
        if word == "group" and not any([agg[1] for agg in running[2]]):
            return GroupTable(self, running, inputs)
        if word in ("group", "sorted"):
            return GroupSorter(self, running, inputs)
        if word == "window":
            return Window(self, running, inputs)
        return Top(self, running, inputs) if word == "top" else Counted(self, running, inputs)


def bag_of(running, tables):
    """The rows of a running plan that never fails, in any order; faults in them stand as values."""
    meter = Meter(MANY_ROWS, MANY_AT_ONCE, 1, ())
    return Job(tables, meter, Ground({}), []).rows(running)


def run(running, tables, *, budget=1000, batch=64, workers=1, turns=()):
    """The answer of a running plan, and the counts."""
    meter = Meter(budget, batch, workers, turns)
    rows = Job(tables, meter, Ground({}), []).rows(running)
    if is_fault(rows):
        return rows, meter.counts()
    failed = faults_in(rows)
    if failed is not None:
        return failed, meter.counts()
    return (rows if has_order(running) else sorted_rows(rows)), meter.counts()
