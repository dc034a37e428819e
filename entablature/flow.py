"""The operators of a running plan that pass rows on as they come."""

from entablature.value import is_fault, least_fault


class Flow:
    """An operator: it takes rows in batches from its inputs, and hands others on to the next operator."""

    def __init__(self, job, inputs):
        self.job = job
        self.meter = job.meter
        self.inputs = inputs
        self.out = None
        self.side = 0
        self.waits = len(inputs)
        self.batch = []
        # The least fault of the inputs that failed, and the least one of its own.
        self.failed = None
        self.fault = None
        for at, below in enumerate(inputs):
            below.out = self
            below.side = at

    def note(self, x):
        """Notes a fault that makes the plan fail; anything else counts for nothing."""
        if type(x) is tuple:
            self.fault = least_fault([self.fault, x])

    def note_all(self, xs):
        """Notes the faults among some values."""
        for x in xs:
            if type(x) is tuple:
                self.note(x)

    def emit(self, row):
        """Hands a row on, with others."""
        self.batch.append(row)
        if len(self.batch) >= self.meter.batch:
            self.flush()

    def flush(self):
        """Hands on what has come together."""
        rows = self.batch
        self.batch = []
        if rows:
            self.meter.handed += len(rows)
            self.out.take(rows, self.side)

    def over(self, failed):
        """An input is at its end, perhaps with a fault."""
        self.failed = least_fault([self.failed, failed])
        self.waits -= 1
        if self.waits == 0:
            self.finish()

    def finish(self):
        """All inputs are at their end."""
        if self.failed is None and self.fault is None:
            self.give()
        self.flush()
        self.out.over(self.failed or self.fault)

    def give(self):
        """Hands on the rows that wait for the end of the inputs; it may note faults."""

    def go(self):
        """Runs the operator with all that is below it."""
        for below in self.inputs:
            below.go()


class ListedRows(Flow):
    """The rows that stand in the plan."""

    def __init__(self, job, running):
        super().__init__(job, [])
        self.rows = running[2]

    def go(self):
        """Hands on its rows."""
        for row in self.rows:
            self.emit(row)
        self.finish()


class WhereFlow(Flow):
    """The rows for which a condition is True."""

    def __init__(self, job, running, inputs):
        super().__init__(job, inputs)
        self.cond = job.ready(running[1])

    def take(self, rows, side):
        """Takes a batch."""
        cond = self.cond
        for row in rows:
            told = cond(row)
            if told is True:
                self.emit(row)
            else:
                self.note(told)


class SelectFlow(Flow):
    """For each row the values of some expressions."""

    def __init__(self, job, running, inputs):
        super().__init__(job, inputs)
        self.exprs = [job.ready(expr) for expr in running[1]]

    def take(self, rows, side):
        """Takes a batch."""
        for row in rows:
            self.emit(tuple([expr(row) for expr in self.exprs]))


class UnionFlow(Flow):
    """The rows of both inputs."""

    def take(self, rows, side):
        """Takes a batch."""
        for row in rows:
            self.emit(row)


class Sink:
    """Gathers the rows of the last operator."""

    def __init__(self):
        self.rows = []
        self.failed = None

    def take(self, rows, side):
        """Takes a batch."""
        self.rows.extend(rows)

    def over(self, failed):
        """The last operator is at its end."""
        self.failed = failed

    def told(self):
        """The rows, or the fault with which the plan fails."""
        return self.rows if self.failed is None else self.failed


def faults_in(rows):
    """The least fault in rows, or None."""
    return least_fault([x for row in rows for x in row if is_fault(x)])
