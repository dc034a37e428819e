"""The watch: goes through a history, and tells the first thing that it finds wrong."""

from entablature.errors import BadForm
from entablature.history import first_order, first_ring
from entablature.programs import check_values, key_column, run_footprint
from entablature.runs import LEVELS
from entablature.same import is_same
from entablature.serial import made_behind, plain_run


def fit(program, values):
    """Whether these are values for a program."""
    try:
        check_values(program, values)
    except BadForm:
        return False
    return True


def are_versions(snapshot, version):
    """Whether both are whole numbers."""
    return type(snapshot) is int and type(version) is int


class Watch:
    """What is known of the runs so far."""

    def __init__(self, database, programs, footprints, version, tables):
        self.database = database
        self.programs = programs
        self.footprints = footprints
        self.first = version
        self.last = version
        # The tables of each version so far.
        self.tables = {version: tables}
        # By objects and by tables: the versions that were written there, rising.
        self.written = {}

    def is_form(self, run):
        """Whether something is a run that may stand next."""
        if type(run) is not tuple or len(run) != 6 or type(run[0]) is not str or run[0] not in self.programs:
            return False
        name, values, level, snapshot, version, told = run
        program = self.programs[name]
        if not fit(program, values) or type(level) is not str or level not in LEVELS:
            return False
        if type(told) is not tuple or len(told) != len(program[2]) or not are_versions(snapshot, version):
            return False
        if not self.first <= snapshot <= self.last:
            return False
        if version == self.last + 1:
            return True
        return version == snapshot and level == "loose" and not self.writes(name)

    def writes(self, name):
        """Whether a program writes something by its footprint."""
        return any([entry[0] == "w" for entries in self.footprints[name] for entry in entries])

    def least_behind(self, spot, snapshot):
        """The least version behind a snapshot at which an object or a table was written, or None."""
        for version in self.written.get(spot, []):
            if version > snapshot:
                return version
        return None

    def staleness(self, run):
        """The first entry by which a run was stale and the least version that makes it so, or None."""
        name, values, level, snapshot, _, _ = run
        for entries in run_footprint(self.footprints[name], values):
            for entry in entries:
                if entry[0] == "w" or level == "strict":
                    least = self.least_behind(entry[1:], snapshot)
                    if least is not None:
                        return entry, least
        return None

    def take(self, run, writes):
        """Makes the writes of a run."""
        name, values, _, _, version, _ = run
        if version != self.last + 1:
            return
        self.tables[version] = made_behind(self.tables[self.last], writes)
        self.last = version
        for entries in run_footprint(self.footprints[name], values):
            for entry in entries:
                if entry[0] == "w":
                    self.mark((entry[1],), version)
                    self.mark(entry[1:], version)

    def mark(self, spot, version):
        """Keeps that an object, or a table, was written at a version."""
        versions = self.written.setdefault(spot, [])
        if not versions or versions[-1] != version:
            versions.append(version)

    def look(self, place, run):
        """What is wrong with a run, or None."""
        if not self.is_form(run):
            return ("form", place)
        name, values, _, snapshot, _, told = run
        found, writes = plain_run(self.database, self.programs[name], values, self.tables[snapshot])
        for at, x in enumerate(found):
            if not is_same(x, told[at]):
                return ("told", place, at)
        stale = self.staleness(run)
        if stale is not None:
            return ("stale", place, stale[0], stale[1])
        self.take(run, writes)
        return None

    def odd_table(self, last):
        """The first table that is not the one told for the end, or None."""
        now = self.tables[self.last]
        for schema in self.database.schemas():
            name = schema[0]
            if name in now and not (name in last and are_same_tables(schema, now[name], last[name])):
                return name
        return None


def are_same_tables(schema, one, other):
    """Whether two plain tables are the same; where programs cannot use it, in whatever order the rows stand."""
    if len(one) != len(other):
        return False
    if key_column(schema) is None:
        return sorted([repr(row) for row in one.values()]) == sorted([repr(row) for row in other.values()])
    keys = {key: key for key in other}
    return all([key in keys and is_same((keys[key], other[key]), (key, row)) for key, row in one.items()])


def watch(database, programs, footprints, version, tables, history, last):
    """The first thing that is wrong with a history; otherwise its first ring, or its first order."""
    known = Watch(database, programs, footprints, version, tables)
    for place, run in enumerate(history):
        told = known.look(place, run)
        if told is not None:
            return told
    odd = known.odd_table(last)
    if odd is not None:
        return ("tables", odd)
    ring = first_ring(history, footprints)
    if ring is not None:
        return ("ring", ring)
    return ("right", first_order(history, footprints))
