"""What is counted while a plan is run, and the settings by which it is run."""


class Meter:
    """Counts segments and rows, and tells whose turn it is."""

    def __init__(self, budget, batch, workers, turns):
        self.budget = budget
        self.batch = batch
        self.workers = workers
        self.turns = list(turns)
        self.turned = 0
        self.unpacked = 0
        self.skipped = 0
        self.handed = 0
        self.held = 0
        self.spooled = 0

    def turn(self):
        """The next turn."""
        if not self.turns:
            return 0
        told = self.turns[self.turned]
        self.turned = self.turned + 1 if self.turned + 1 < len(self.turns) else 0
        return told

    def holds(self, many):
        """An operator holds so many rows."""
        self.held = max(self.held, many)

    def counts(self):
        """All that was counted."""
        return (self.unpacked, self.skipped, self.handed, self.held, self.spooled)


class Room:
    """The rows that an operator may hold, shared by what it holds them in."""

    def __init__(self, meter):
        self.meter = meter
        self.used = 0
        self.holders = []
        self.has_spilled = False

    def take(self):
        """Makes room for one row more."""
        if self.used >= self.meter.budget:
            self.spill()
        self.used += 1
        self.meter.holds(self.used)

    def free(self, many):
        """So many rows are not held any more."""
        self.used -= many

    def spill(self):
        """Writes all rows to the spool."""
        self.has_spilled = True
        for holder in self.holders:
            holder.spill()


class Shelf:
    """Rows in the order in which they came, held or in the spool."""

    def __init__(self, room):
        self.room = room
        self.rows = []
        self.written = []
        room.holders.append(self)

    def put(self, row):
        """Puts a row behind the others."""
        self.room.take()
        self.rows.append(row)

    def spill(self):
        """Writes the rows that are held to the spool."""
        self.written.extend(self.rows)
        self.room.meter.spooled += len(self.rows)
        self.room.free(len(self.rows))
        self.rows = []

    def told(self):
        """All rows; none may come behind that."""
        return self.written if not self.rows else self.written + self.rows
