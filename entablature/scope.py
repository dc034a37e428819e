"""What names stand for while a query is bound."""


class Base:
    """One source of a FROM: what it is called, and its columns."""

    def __init__(self, name, names, kinds):
        self.name = name
        self.names = names
        self.kinds = kinds


class Scope:
    """The columns of one FROM, one source behind the other.

    After grouping its keys are told; then a column that is no key may stand within a key alone.
    """

    def __init__(self, number, bases, closed):
        self.number = number
        self.bases = bases
        # Whether names that are not found here are looked for no further out.
        self.closed = closed
        self.groups = None

    def columns(self):
        """Triples of the source, the name and the kind of each column, in order."""
        found = []
        for base in self.bases:
            for name, kind in zip(base.names, base.kinds):
                found.append((base.name, name, kind))
        return found

    def has_base(self, called):
        """Whether there is a source that is called so."""
        return called is not None and called in [base.name for base in self.bases]

    def places(self, called, name):
        """The places of the columns of a name, in one source if one is called, otherwise in all."""
        found = []
        for at, column in enumerate(self.columns()):
            if column[1] == name and (called is None or column[0] == called):
                found.append(at)
        return found

    def place_in_groups(self, raw):
        """The first key that an expression over the FROM equals, or -1."""
        if self.groups is None or raw not in self.groups:
            return -1
        return self.groups.index(raw)


class Around:
    """What an expression or a query is bound in: the named queries, and the scopes, the next one first."""

    def __init__(self, known, scopes):
        self.known = known
        self.scopes = scopes
