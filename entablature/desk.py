"""A desk: programs that are run side by side, each run on a snapshot, and a log of all that was done."""

from entablature.copies import only_reads
from entablature.database import Database
from entablature.deeds import COMMIT, FILLING, IMAGE, LEVELS_SET, PROGRAM, RIGHT, TABLE, VIEW, as_changes, check_deed
from entablature.doing import Hand
from entablature.errors import BadForm, BadKey, BadKind, BadName, NoSuch, Stale, TooMuch
from entablature.log import entry
from entablature.programs import check_program, check_values
from entablature.right import SeenBy, check_right
from entablature.runs import LEVELS, Run, commit
from entablature.same import is_same
from entablature.value import is_text, sorted_rows

MOST_PROGRAMS = 8
MOST_USER = 20
SETTINGS = (1000, 64, 1, ())


class Desk:
    """Tables, views, programs, rights, and the runs under way."""

    def __init__(self):
        self.database = Database()
        self.runs = {}
        self.commits = []
        # By their names: the programs in the order in which they were taken, and their levels.
        self.taken = {}
        self.levels = {}
        self.rights = {}
        self.past = []
        # The version at which the first program was taken, and that at which the last one was.
        self.start = None
        self.floor = 0
        self.begun = 0
        # The octets of the log, and the entries behind them that are not written yet.
        self.octets = []
        self.deeds = []
        self.is_new = True

    def keep(self, kind, payload):
        """Puts an entry into the log."""
        self.deeds.append((kind, payload))
        self.is_new = False

    def check_no_program(self):
        """Refuses what must be done before there is a program."""
        if self.taken:
            raise BadKey()

    def create(self, schema):
        """Makes a table."""
        self.check_no_program()
        self.database.create(schema)
        self.keep(TABLE, (schema,))

    def view(self, name, text):
        """Makes a view."""
        self.database.view(name, text)
        self.keep(VIEW, (name, text))

    def fill(self, changes):
        """Changes the rows of tables before there is a program, and tells the version."""
        self.check_no_program()
        told = as_changes(changes)
        version = self.database.commit(told)
        self.keep(FILLING, told)
        return version

    def add(self, program):
        """Takes a program."""
        check_program(program, self.database)
        if program[0] in self.taken:
            raise BadName(-1)
        if len(self.taken) >= MOST_PROGRAMS:
            raise TooMuch()
        self.floor = self.version()
        if not self.taken:
            self.start = self.floor
        self.taken[program[0]] = program
        self.levels[program[0]] = "strict"
        self.keep(PROGRAM, program)

    def allot(self, levels):
        """Gives each program a level, in the order in which they were taken."""
        if type(levels) is not tuple or len(levels) != len(self.taken):
            raise BadForm()
        if not all([type(level) is str and level in LEVELS for level in levels]):
            raise BadForm()
        for name, level in zip(self.taken, levels):
            self.levels[name] = level
        self.keep(LEVELS_SET, levels)

    def program(self, name):
        """The program of a name."""
        if name not in self.taken:
            raise NoSuch()
        return self.taken[name]

    def level(self, name):
        """The level of a program."""
        self.program(name)
        return self.levels[name]

    def allotment(self):
        """The levels of the programs, in the order in which they were taken."""
        return tuple([self.levels[name] for name in self.taken])

    def schemas(self):
        """The schemas of the tables."""
        return self.database.schemas()

    def version(self):
        """The last version."""
        return self.database.version()

    def views(self):
        """The names of the views with the texts of their queries."""
        return tuple([(name, self.database.view_of(name).text) for name in self.database.views()])

    def first(self):
        """The first version of the history."""
        return self.version() if self.start is None else self.start

    def snapshot_of(self, snapshot):
        """The version that a run may begin at; the last one, if none is told."""
        if snapshot is None:
            return self.version()
        if type(snapshot) is not int or not self.floor <= snapshot <= self.version():
            raise NoSuch()
        return snapshot

    def begin(self, name, values, *, snapshot=None):
        """Begins a run, and tells its number."""
        program = self.program(name)
        run = Run(self.database, program, values, self.levels[name], self.snapshot_of(snapshot))
        number = self.begun
        self.begun += 1
        self.runs[number] = run
        return number

    def under_way(self, number):
        """The run of a number."""
        if number not in self.runs:
            raise NoSuch()
        return self.runs[number]

    def step(self, number, *, choice=0, budget=1000, batch=64, workers=1, turns=()):
        """Does the next statement of a run, and tells what that tells."""
        run = self.under_way(number)
        return run.step(choice=choice, budget=budget, batch=batch, workers=workers, turns=turns)

    def leave(self, number):
        """Gives a run up."""
        self.under_way(number)
        del self.runs[number]

    def commit(self, number):
        """Commits a run that is over, and tells the version."""
        run = self.under_way(number)
        if not run.is_over():
            raise BadForm()
        del self.runs[number]
        return self.finish(run)

    def finish(self, run):
        """Commits a run that is over at the level that its program has now."""
        name = run.program[0]
        run.turn_to(self.levels[name])
        if run.snapshot < self.floor:
            raise Stale()
        version = commit(run, self.commits)
        self.past.append((name, run.given, run.level, run.snapshot, version, run.told))
        self.keep(COMMIT, (name, run.given, run.level, run.snapshot, run.told, run.changes()))
        return version

    def run(self, name, values, *, snapshot=None):
        """Runs a program and commits it; tells the version and what was told."""
        number = self.begin(name, values, snapshot=snapshot)
        told = self.runs[number].finish()
        return self.commit(number), told

    def history(self):
        """The runs that have committed, in their order."""
        return tuple(self.past)

    def give(self, user, right):
        """Gives a user a right, in the place of an earlier one."""
        if not is_text(user) or not 1 <= len(user) <= MOST_USER:
            raise BadForm()
        check_right(right, self.database)
        self.rights[user] = right
        self.keep(RIGHT, (user, right))

    def look(self, user, name, values, *, snapshot=None):
        """What a program without writes tells a user, on the rows that the user sees."""
        if user not in self.rights:
            raise NoSuch()
        right = self.rights[user]
        program = self.program(name)
        if name not in right[1]:
            raise NoSuch()
        version = self.snapshot_of(snapshot)
        if not only_reads(program):
            raise BadKind(-1)
        check_values(program, values)
        hand = Hand(self.database, program, values, SeenBy(self.database, version, right))
        return tuple([hand.step(at, 0, SETTINGS) for at in range(len(program[2]))])

    def log(self):
        """The octets of the log."""
        for kind, payload in self.deeds:
            self.octets.extend(entry(kind, payload))
        self.deeds = []
        return list(self.octets)

    def image(self):
        """The octets of an entry from which a desk may begin as this one is now."""
        schemas = self.schemas()
        rows = tuple([tuple(sorted_rows(self.database.store.rows(form[0], self.version()))) for form in schemas])
        programs = tuple([(program, self.levels[name]) for name, program in self.taken.items()])
        return entry(IMAGE, (self.version(), schemas, rows, self.views(), programs, tuple(self.rights.items())))

    def redo(self, kind, payload):
        """Does the deed of an entry of a log."""
        check_deed(kind, payload)
        if kind == TABLE:
            self.create(payload[0])
        elif kind == PROGRAM:
            self.add(payload)
        elif kind == LEVELS_SET:
            self.allot(payload)
        elif kind == COMMIT:
            self.redo_commit(payload)
        elif kind == IMAGE:
            self.redo_image(payload)
        elif kind == VIEW:
            self.view(payload[0], payload[1])
        elif kind == FILLING:
            self.fill(payload)
        else:
            self.give(payload[0], payload[1])

    def redo_commit(self, payload):
        """Commits a run that tells and changes just what an entry says."""
        name, values, level, snapshot, told, changes = payload
        program = self.program(name)
        if level != self.levels[name]:
            raise BadForm()
        run = Run(self.database, program, values, level, self.snapshot_of(snapshot))
        if not is_same(run.finish(), told) or not is_same(run.changes(), changes):
            raise BadForm()
        self.finish(run)

    def redo_image(self, payload):
        """Makes a new desk what an image tells."""
        if not self.is_new:
            raise BadForm()
        made = Desk()
        made.build(payload)
        self.database.become(made.database)
        self.taken = made.taken
        self.levels = made.levels
        self.rights = made.rights
        self.start = made.start
        self.floor = made.floor
        self.keep(IMAGE, payload)

    def build(self, payload):
        """Builds what an image tells; where that goes wrong the desk is of no use."""
        version, schemas, rows, views, programs, rights = payload
        for schema in schemas:
            self.create(schema)
        if version > 0:
            self.database.leap(version - 1)
            self.fill([(schema[0], (), part) for schema, part in zip(schemas, rows)])
        elif any([len(part) > 0 for part in rows]):
            raise BadForm()
        if not all([tuple(sorted_rows(part)) == part for part in rows]):
            raise BadForm()
        for name, text in views:
            self.view(name, text)
        for program, _ in programs:
            self.add(program)
        self.allot(tuple([level for _, level in programs]))
        for user, right in rights:
            self.give(user, right)
