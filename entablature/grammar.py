"""Reads queries into trees."""

from entablature.errors import TooMuch
from entablature.syntax import check_tree
from entablature.terms import CHOICE, TermReader

MOST_TEXT = 3000
SIDES = {"INNER": "inner", "LEFT": "left", "RIGHT": "right", "FULL": "full"}
SETS = {"UNION": "union", "EXCEPT": "except"}


class QueryReader(TermReader):
    """Reads queries."""

    def query(self):
        """A query."""
        at = self.place()
        self.go_in()
        ctes = ()
        if self.take_key("WITH"):
            ctes = self.ctes()
        body = self.body()
        order = ()
        limit = None
        offset = 0
        if self.take_key("ORDER"):
            order = self.order_items()
        if self.take_key("LIMIT"):
            limit = self.need_small()
        if self.take_key("OFFSET"):
            offset = self.need_small()
        self.go_out()
        return ("query", ctes, body, order, limit, offset, at)

    def ctes(self):
        """The named queries behind WITH."""
        ctes = [self.cte()]
        while self.take_mark(","):
            ctes.append(self.cte())
        return tuple(ctes)

    def cte(self):
        """A name and its query."""
        at = self.place()
        name = self.need_name()
        self.need_key("AS")
        return (name, self.inner_query(), at)

    def inner_query(self):
        """A query in brackets that must be there."""
        self.need_mark("(")
        query = self.query()
        self.need_mark(")")
        return query

    def body(self):
        """Parts with UNION or EXCEPT between them."""
        at = self.place()
        left = self.meet()
        while self.is_sort("key") and self.ahead(0)[1] in SETS:
            name = SETS[self.skip()]
            every = self.take_key("ALL")
            left = ("set", name, every, left, self.meet(), at)
        return left

    def meet(self):
        """Parts with INTERSECT between them."""
        at = self.place()
        left = self.core()
        while self.take_key("INTERSECT"):
            every = self.take_key("ALL")
            left = ("set", "intersect", every, left, self.core(), at)
        return left

    def core(self):
        """SELECT, VALUES or a query in brackets."""
        at = self.place()
        if self.take_key("SELECT"):
            return self.select(at)
        if self.take_key("VALUES"):
            rows = [self.values_row()]
            while self.take_mark(","):
                rows.append(self.values_row())
            return ("values", tuple(rows), at)
        return self.inner_query()

    def values_row(self):
        """One row of VALUES."""
        self.need_mark("(")
        exprs = self.exprs()
        self.need_mark(")")
        return exprs

    def select(self, at):
        """What stands behind SELECT."""
        distinct = self.take_key("DISTINCT")
        outs = self.outs()
        sources = ()
        if self.take_key("FROM"):
            sources = self.sources()
        where = self.expr(CHOICE) if self.take_key("WHERE") else None
        groups = None
        if self.take_key("GROUP"):
            self.need_key("BY")
            groups = self.exprs()
        having = self.expr(CHOICE) if self.take_key("HAVING") else None
        return ("select", distinct, outs, sources, where, groups, having, at)

    def outs(self):
        """The columns of a select."""
        at = self.place()
        if self.take_mark("*"):
            return (("all", at),)
        outs = [self.out()]
        while self.take_mark(","):
            outs.append(self.out())
        return tuple(outs)

    def out(self):
        """One column, or all of a table."""
        at = self.place()
        if self.is_sort("word") and self.ahead(1) == ("mark", ".") and self.ahead(2) == ("mark", "*"):
            name = self.skip()
            self.skip()
            self.skip()
            return ("all", name, at)
        expr = self.expr(CHOICE)
        return (expr, self.need_name() if self.take_key("AS") else None)

    def sources(self):
        """What stands behind FROM."""
        sources = [self.source()]
        while self.take_mark(","):
            sources.append(self.source())
        return tuple(sources)

    def source(self):
        """A chain of joins."""
        at = self.place()
        left = self.base()
        while True:
            if self.take_key("CROSS"):
                self.need_key("JOIN")
                left = ("joined", "cross", left, self.base(), None, at)
                continue
            kind = "inner"
            if self.is_sort("key") and self.ahead(0)[1] in SIDES:
                kind = SIDES[self.skip()]
            elif not self.is_key("JOIN"):
                return left
            self.need_key("JOIN")
            right = self.base()
            self.need_key("ON")
            left = ("joined", kind, left, right, self.expr(CHOICE), at)

    def base(self):
        """A table, or a query in brackets."""
        at = self.place()
        if self.is_mark("("):
            query = self.inner_query()
            self.take_key("AS")
            return ("sub", query, self.need_name(), at)
        name = self.need_name()
        other = name
        if self.take_key("AS") or self.is_sort("word"):
            other = self.need_name()
        return ("table", name, other, at)


def parse(text):
    """The tree of a query."""
    if len(text) > MOST_TEXT:
        raise TooMuch()
    reader = QueryReader(text)
    tree = reader.query()
    reader.need_end()
    check_tree(tree)
    return tree
