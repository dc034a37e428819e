"""Reads the expressions of queries."""

from entablature.reader import Reader

# What joins two expressions, by how closely it binds: OR 1, AND 2, tests 3, sums 4, products 5; signs 6.
CHOICE = 1
BOTH = 2
TEST = 3
SUM = 4
PRODUCT = 5
SIGN = 6

LINKS = {
    ("key", "OR"): (CHOICE, "or"), ("key", "AND"): (BOTH, "and"),
    ("mark", "="): (TEST, "eq"), ("mark", "<>"): (TEST, "ne"), ("mark", "<"): (TEST, "lt"),
    ("mark", "<="): (TEST, "le"), ("mark", ">"): (TEST, "gt"), ("mark", ">="): (TEST, "ge"),
    ("key", "IS"): (TEST, ""), ("key", "NOT"): (TEST, ""), ("key", "BETWEEN"): (TEST, ""),
    ("key", "LIKE"): (TEST, ""), ("key", "IN"): (TEST, ""),
    ("mark", "+"): (SUM, "add"), ("mark", "-"): (SUM, "sub"), ("mark", "||"): (SUM, "cat"),
    ("mark", "*"): (PRODUCT, "mul"), ("mark", "/"): (PRODUCT, "div"),
}

# The operators that are written as calls, with how many arguments.
CALLED = {
    "mod": 2, "abs": 1, "size": 1, "upper": 1, "lower": 1, "part": 3, "number": 1, "words": 1,
    "coalesce": 2, "nullif": 2, "most": 2, "least": 2,
}

TRUTHS = {"TRUE": True, "FALSE": False, "NULL": None}


def op(name, args):
    """An operator that stands behind its first argument."""
    return ("op", name, args, args[0][-1])


def one_of(expr, choices):
    """Whether an expression equals one of several, as a tree of eq and or."""
    found = op("eq", (expr, choices[0]))
    for choice in choices[1:]:
        found = op("or", (found, op("eq", (expr, choice))))
    return found


class TermReader(Reader):
    """Reads expressions; the queries in them are read by the class below."""

    def expr(self, least):
        """An expression of parts that bind at least so closely."""
        if self.is_key("NOT") and least <= TEST:
            left = self.denial()
            most = BOTH
        else:
            left = self.sign()
            most = SIGN
        while True:
            thing = self.ahead(0)
            if thing not in LINKS:
                return left
            level, name = LINKS[thing]
            if level < least or level > most:
                return left
            if level == TEST:
                left = self.tested(left, name)
                most = BOTH
            else:
                self.skip()
                left = op(name, (left, self.expr(level + 1)))

    def denial(self):
        """NOT and what it denies."""
        at = self.place()
        self.go_in()
        self.skip()
        expr = self.expr(TEST)
        self.go_out()
        return ("op", "not", (expr,), at)

    def sign(self):
        """A minus sign and what is behind it, or an atom."""
        if not self.is_mark("-"):
            return self.atom()
        at = self.place()
        self.go_in()
        self.skip()
        expr = self.expr(SIGN)
        self.go_out()
        return ("op", "neg", (expr,), at)

    def tested(self, left, name):
        """A test of an expression that has been read; name is that of a comparison, or empty."""
        if name:
            self.skip()
            return op(name, (left, self.expr(SUM)))
        if self.is_key("IS"):
            return self.state(left)
        if not self.take_key("NOT"):
            return self.relation(left)
        return op("not", (self.relation(left),))

    def state(self, left):
        """IS NULL and the like."""
        at = self.place()
        self.skip()
        denied = self.take_key("NOT")
        if not self.is_sort("key") or self.ahead(0)[1] not in TRUTHS:
            self.fail()
        truth = TRUTHS[self.skip()]
        if truth is None:
            found = op("isnull", (left,))
        else:
            found = op("same", (left, ("lit", truth, at)))
        return op("not", (found,)) if denied else found

    def relation(self, left):
        """BETWEEN, LIKE or IN."""
        if self.take_key("BETWEEN"):
            low = self.expr(SUM)
            self.need_key("AND")
            high = self.expr(SUM)
            return op("and", (op("ge", (left, low)), op("le", (left, high))))
        if self.take_key("LIKE"):
            return op("like", (left, self.expr(SUM)))
        self.need_key("IN")
        self.need_mark("(")
        if self.begins_query(0):
            query = self.query()
            self.need_mark(")")
            return ("in", left, query, left[-1])
        self.open_list()
        choices = self.exprs()
        self.need_mark(")")
        self.close_list()
        return one_of(left, choices)

    def exprs(self):
        """Expressions with commas between them."""
        exprs = [self.expr(CHOICE)]
        while self.take_mark(","):
            exprs.append(self.expr(CHOICE))
        return tuple(exprs)

    def atom(self):
        """An expression that nothing can take apart."""
        at = self.place()
        if self.is_sort("number") or self.is_sort("text"):
            return ("lit", self.skip(), at)
        if self.is_sort("word"):
            return self.named()
        if self.is_mark("("):
            return self.bracketed()
        if self.is_sort("key") and self.ahead(0)[1] in TRUTHS:
            return ("lit", TRUTHS[self.skip()], at)
        if self.is_key("CASE"):
            return self.choice()
        self.need_key("EXISTS")
        self.need_mark("(")
        query = self.query()
        self.need_mark(")")
        return ("exists", query, at)

    def bracketed(self):
        """A query or an expression in brackets."""
        at = self.place()
        if self.begins_query(1):
            self.skip()
            query = self.query()
            self.need_mark(")")
            return ("scalar", query, at)
        self.go_in()
        self.skip()
        expr = self.expr(CHOICE)
        self.need_mark(")")
        self.go_out()
        return expr

    def choice(self):
        """CASE .. END."""
        at = self.place()
        self.go_in()
        self.skip()
        pairs = []
        self.need_key("WHEN")
        while True:
            cond = self.expr(CHOICE)
            self.need_key("THEN")
            pairs.append((cond, self.expr(CHOICE)))
            if not self.take_key("WHEN"):
                break
        if self.take_key("ELSE"):
            other = self.expr(CHOICE)
        else:
            other = ("lit", None, self.place())
        self.need_key("END")
        self.go_out()
        return ("case", tuple(pairs), other, at)

    def named(self):
        """A name, a name of a table and one of its columns, or a call."""
        at = self.place()
        if self.ahead(1) == ("mark", "("):
            return self.call()
        name = self.skip()
        if not self.take_mark("."):
            return ("name", None, name, at)
        return ("name", name, self.need_name(), at)

    def call(self):
        """A call, with its window."""
        at = self.place()
        self.go_in()
        name = self.skip()
        self.skip()
        star = self.take_mark("*")
        distinct = not star and self.take_key("DISTINCT")
        args = ()
        if not star and (distinct or not self.is_mark(")")):
            args = self.exprs()
        self.need_mark(")")
        window = None
        if self.take_key("OVER"):
            window = self.window()
        self.go_out()
        if CALLED.get(name, -1) == len(args) and not distinct and not star and window is None:
            return ("op", name, args, at)
        return ("call", name, distinct, args, star, window, at)

    def window(self):
        """What stands in brackets behind OVER."""
        self.need_mark("(")
        partition = ()
        order = ()
        frame = None
        if self.take_key("PARTITION"):
            self.need_key("BY")
            partition = self.exprs()
        if self.take_key("ORDER"):
            order = self.order_items()
        if self.take_key("ROWS"):
            self.need_key("BETWEEN")
            first = self.edge()
            self.need_key("AND")
            frame = (first, self.edge())
        self.need_mark(")")
        return (partition, order, frame)

    def edge(self):
        """An edge of a frame."""
        if self.take_key("CURRENT"):
            self.need_key("ROW")
            return ("here", 0)
        many = -1
        if not self.take_key("UNBOUNDED"):
            many = self.need_small()
        if self.take_key("PRECEDING"):
            return ("start", 0) if many < 0 else ("before", many)
        self.need_key("FOLLOWING")
        return ("end", 0) if many < 0 else ("after", many)

    def order_items(self):
        """What stands behind ORDER."""
        self.need_key("BY")
        items = [self.item()]
        while self.take_mark(","):
            items.append(self.item())
        return tuple(items)

    def item(self):
        """An expression to order by, whether it is turned, and whether nulls are first."""
        expr = self.expr(CHOICE)
        desc = self.take_key("DESC")
        if not desc:
            self.take_key("ASC")
        first = desc
        if self.take_key("NULLS"):
            first = self.take_key("FIRST")
            if not first:
                self.need_key("LAST")
        return (expr, desc, first)
