"""Views: rows of a plan that are kept while the tables change."""

from entablature.branches import exprs_of
from entablature.errors import BadKind
from entablature.facts import safe
from entablature.keeping import Looking, add_to, part_of
from entablature.piece import piece_of
from entablature.tighten import tightened
from entablature.value import sorted_rows

WORDS = ("scan", "rows", "where", "select", "join", "union", "distinct", "except", "meet", "group")
SIDES = ("inner", "semi", "anti")


def are_parts_kept(piece):
    """Whether the plan of a piece and those below it are of the sorts that are kept, with expressions that are safe."""
    plan = piece.plan
    if plan[0] not in WORDS or not all([are_parts_kept(below) for below in piece.inputs]):
        return False
    if plan[0] == "join" and plan[1] not in SIDES:
        return False
    exprs = exprs_of(plan)
    if plan[0] == "select":
        exprs = [expr for expr in exprs if expr[0] != "col"]
    faults = tuple([bad for below in piece.inputs for bad in below.faults()])
    return all([safe(expr, faults) for expr in exprs])


def kept_piece(plan, schemas):
    """The piece of a plan that can be kept, or None."""
    piece = piece_of(plan, {schema[0]: schema for schema in schemas})
    return piece if are_parts_kept(piece) and piece.is_steady() else None


def can_keep(plan, schemas):
    """Whether a plan can be kept."""
    return kept_piece(plan, schemas) is not None


def net(gone, new):
    """How many times more each row is there."""
    counts = {}
    for row in gone:
        add_to(counts, tuple(row), -1)
    for row in new:
        add_to(counts, tuple(row), 1)
    return counts


def repeated(counts, sign):
    """The rows that are there more often, or less often, by their order; each as many times as told."""
    rows = []
    for row, many in counts.items():
        rows.extend([row] * (many * sign))
    return sorted_rows(rows)


def change_of(plan, schemas, tables, change):
    """The change of a plan's rows by a change of tables: the rows that go, and those that come."""
    view = View(plan, schemas, tables)
    told = view.step(change)
    return repeated(told, -1), repeated(told, 1)


class View:
    """The rows of a plan, kept."""

    def __init__(self, plan, schemas, tables):
        piece = kept_piece(plan, schemas)
        if piece is None:
            raise BadKind(-1)
        self.looking = Looking()
        self.part = part_of(tightened(piece), self.looking)
        self.counts = self.part.step({name: net([], rows) for name, rows in tables.items()}, True)
        self.looking.many = 0

    def rows(self):
        """The rows, by their order."""
        return repeated(self.counts, 1)

    def step(self, change):
        """Changes the rows, and tells how many times more each one is there."""
        told = self.part.step({name: net(pair[0], pair[1]) for name, pair in change.items()}, False)
        for row, many in told.items():
            add_to(self.counts, row, many)
        return told

    def change(self, change):
        """Changes the rows by a change of the tables."""
        self.step(change)

    def looked(self):
        """How many rows were looked at in all changes."""
        return self.looking.many
