"""Copies of a desk that lag behind it, and the sessions of those who ask them."""

from entablature.errors import BadKind, Behind, PeristyleError
from entablature.log import end_of, entry_at
from entablature.runs import Run

WRITING = ("set", "put", "drop")


def only_reads(program):
    """Whether a program has no statement that writes."""
    return not any([statement[0] in WRITING for statement in program[2]])


class Session:
    """The greatest version that somebody has seen."""

    def __init__(self):
        self.token = 0

    def check(self, version):
        """Refuses a version that is less than what has been seen."""
        if version < self.token:
            raise Behind()

    def saw(self, version):
        """Keeps a version that has been seen."""
        self.token = max(self.token, version)


class Copy:
    """A desk that is made out of the log of another one as it comes in."""

    def __init__(self, desk):
        self.desk = desk
        # The octets of which no deed has been done yet.
        self.left = []
        # Whether an entry was not taken; what is behind it is left out.
        self.is_ended = False

    def take(self, octets):
        """Takes the next octets of the log, and does the deeds that are whole now."""
        if self.is_ended:
            return
        self.left.extend(octets)
        at = 0
        end = end_of(self.left, at)
        while end is not None and not self.is_ended:
            self.is_ended = not self.does(entry_at(self.left, at))
            at = end
            end = end_of(self.left, at)
        if at > 0:
            self.left = [] if self.is_ended else self.left[at:]

    def does(self, told):
        """Does the deed of an entry, and tells whether it was taken."""
        if told is None:
            return False
        try:
            self.desk.redo(told[0], told[1])
        except PeristyleError:
            return False
        return True

    def version(self):
        """The version of the copy."""
        return self.desk.version()

    def run(self, name, values, session=None):
        """Runs a loose program without writes from the version of the copy, and tells the run as in a history."""
        program = self.desk.program(name)
        if self.desk.level(name) != "loose" or not only_reads(program):
            raise BadKind(-1)
        version = self.version()
        if session is not None:
            session.check(version)
        told = Run(self.desk.database, program, values, "loose", version).finish()
        if session is not None:
            session.saw(version)
        return (name, values, "loose", version, version, told)
