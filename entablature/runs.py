"""Runs of programs: each on a snapshot, with what it has written itself."""

from entablature.doing import Hand
from entablature.errors import BadForm, Stale
from entablature.programs import all_entries, check_values, run_footprint
from entablature.seen import Seen

LEVELS = ("loose", "strict")


class Run:
    """One run of a right program."""

    def __init__(self, database, program, values, level, snapshot):
        check_values(program, values)
        if level not in LEVELS:
            raise BadForm()
        self.database = database
        self.program = program
        self.given = values
        self.level = level
        self.snapshot = snapshot
        self.told = ()
        self.seen = Seen(database, snapshot)
        self.entries = run_footprint(all_entries(program, database), values)
        self.hand = Hand(database, program, values, self.seen)
        for entries in self.entries:
            for entry in entries:
                database.store.table_at(entry[1], snapshot)

    def turn_to(self, level):
        """Takes another level, that of its program when it commits."""
        self.level = level

    def is_over(self):
        """Whether all statements are done."""
        return len(self.told) == len(self.program[2])

    def step(self, *, choice=0, budget=1000, batch=64, workers=1, turns=()):
        """Does the next statement, and tells what that tells."""
        if self.is_over():
            raise BadForm()
        told = self.hand.step(len(self.told), choice, (budget, batch, workers, turns))
        self.told = self.told + (told,)
        return told

    def finish(self):
        """Does all statements that are left, and tells what all have told."""
        while not self.is_over():
            self.step()
        return self.told

    def footprint(self):
        """The footprint of the run."""
        return self.entries

    def changes(self):
        """The changes against the snapshot."""
        return self.seen.changes()


def writes(footprint):
    """The objects that a run writes."""
    return tuple({(entry[1], entry[2]): True for entries in footprint for entry in entries if entry[0] == "w"})


def is_stale(level, snapshot, footprint, commits):
    """Whether a run with such a footprint may not be committed behind some commits."""
    objects = {}
    tables = {}
    for version, other in commits:
        if version > snapshot:
            for name, value in writes(other):
                objects[(name, value)] = True
                tables[name] = True
    for entries in footprint:
        for entry in entries:
            if entry[0] == "a":
                if level == "strict" and entry[1] in tables:
                    return True
            elif (entry[0] == "w" or level == "strict") and (entry[1], entry[2]) in objects:
                return True
    return False


def commit(run, commits):
    """Commits a run that is over, and tells the version; it is put behind the commits."""
    if not run.is_over():
        raise BadForm()
    if is_stale(run.level, run.snapshot, run.footprint(), commits):
        raise Stale()
    version = run.database.commit(run.changes())
    commits.append((version, run.footprint()))
    return version
