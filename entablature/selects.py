"""Binds selects."""

from entablature.branches import args_of, plans_of, with_args
from entablature.calls import has_agg, is_right_agg, is_right_window, lift_aggs, lift_windows
from entablature.errors import BadKind, BadName
from entablature.fitting import AGGS
from entablature.plan import put_in
from entablature.scope import Around
from entablature.sources import bound_from
from entablature.typed import BOOL, bound_asked, bound_whole


class Select:
    """A select while it is bound: its plan so far, and what its expressions are bound in."""

    def __init__(self, work, outside, body):
        self.work = work
        self.body = body
        self.plan, self.scope = bound_from(work, outside, body[3])
        self.around = Around(outside.known, [self.scope] + outside.scopes)
        self.terms = [None if out[0] == "all" else out[0] for out in body[2]]
        self.aggs = []
        self.agg_kinds = []
        self.funs = []
        self.fun_kinds = []
        # How many columns the plan has below its windows.
        self.width = len(self.scope.columns())
        self.exprs = []
        self.names = []
        self.told = []

    def bind(self, order):
        """Binds all but ORDER BY, whose expressions are told if they belong to this select; they are told lifted."""
        _, _, _, _, where, groups, having, _ = self.body
        if where is not None:
            cond = bound_whole(self.work, self.around, where, BOOL)[0]
            self.plan = ("where", cond, self.plan)
        terms = [term for term in self.terms if term is not None] + order
        if groups is not None or having is not None or any([has_agg(term) for term in terms]):
            order = self.bind_groups(groups or (), having, order)
        order = self.bind_windows(order)
        for out, term in zip(self.body[2], self.terms):
            if term is None:
                self.take_all(out)
            else:
                self.take_out(out[1], term)
        return order

    def bind_groups(self, groups, having, order):
        """Binds the keys, the aggs and HAVING."""
        bound = [bound_whole(self.work, self.around, group, None)[0] for group in groups]
        self.terms = [self.without_aggs(term, True) for term in self.terms]
        if having is not None:
            having = self.without_aggs(having, False)
        order = [self.without_aggs(term, True) for term in order]
        self.plan = ("group", tuple(bound), tuple(self.aggs), self.plan)
        self.scope.groups = bound
        self.width = len(bound) + len(self.aggs)
        if having is not None:
            self.plan = ("where", self.bound_final(having, BOOL)[0], self.plan)
        return order

    def without_aggs(self, term, may_over):
        """An expression with its aggs lifted out."""
        if term is None:
            return None
        return lift_aggs(term, may_over, self.bind_agg)

    def bind_agg(self, call):
        """The mark of a call of an agg."""
        _, name, distinct, args, star, _, at = call
        if not is_right_agg(call):
            raise BadKind(at)
        if star:
            agg, kind = ("rows", False, None), "int"
        else:
            takes, tells = AGGS[name]
            arg, kind = bound_asked(self.work, self.around, args[0], takes)
            agg, kind = (name, distinct, arg), tells or kind
        if agg not in self.aggs:
            self.aggs.append(agg)
            self.agg_kinds.append(kind)
        number = self.aggs.index(agg)
        return ("agg", number, self.agg_kinds[number], at)

    def bind_windows(self, order):
        """Binds the calls with OVER."""
        self.terms = [self.without_windows(term) for term in self.terms]
        order = [self.without_windows(term) for term in order]
        if self.funs:
            self.plan = ("window", tuple(self.funs), self.plan)
        return order

    def without_windows(self, term):
        """An expression with its calls with OVER lifted out."""
        if term is None:
            return None
        return lift_windows(term, self.bind_window)

    def bind_window(self, call):
        """The mark of a call with OVER."""
        _, name, _, args, star, window, at = call
        if not is_right_window(call):
            raise BadKind(at)
        word, arg, kind = name, None, "int"
        if star:
            word = "rows"
        elif args:
            takes, tells = AGGS.get(name, (None, None))
            arg, kind = self.bound_final(args[0], takes)
            kind = tells or kind
        partition = tuple([self.bound_final(expr, None)[0] for expr in window[0]])
        items = tuple([(self.bound_final(item[0], None)[0], item[1], item[2]) for item in window[1]])
        fun = (word, arg, partition, items, window[2])
        if fun not in self.funs:
            self.funs.append(fun)
            self.fun_kinds.append(kind)
        number = self.funs.index(fun)
        return ("win", number, self.fun_kinds[number], at)

    def bound_final(self, term, asked):
        """A whole expression behind grouping, and its kind."""
        raw, kind = bound_whole(self.work, self.around, term, asked)
        return self.final(raw), kind

    def final(self, raw):
        """What is worked out on the plan for an expression over the FROM."""
        place = self.scope.place_in_groups(raw)
        if place >= 0:
            return ("col", place)
        if raw[0] == "agg":
            return ("col", len(self.scope.groups) + raw[1])
        if raw[0] == "win":
            return ("col", self.width + raw[1])
        args = [self.final(arg) for arg in args_of(raw)]
        plans = plans_of(raw)
        if self.scope.groups is not None and plans:
            plans = plans_of(put_in(raw, self.group_columns()))
        return with_args(raw, args, plans)

    def group_columns(self):
        """For each column of the FROM the key that it is; those that are none do not stand in what is right."""
        many = len(self.scope.columns())
        return [("col", max(0, self.scope.place_in_groups(("col", place)))) for place in range(many)]

    def take_out(self, name, term):
        """One expression of the select."""
        expr, kind = self.bound_final(term, None)
        self.exprs.append(expr)
        if name is None:
            name = term[2] if term[0] == "name" else f"c{len(self.exprs)}"
        self.names.append(name)
        self.told.append(kind)

    def take_all(self, out):
        """A star."""
        at = out[-1]
        called = out[1] if len(out) == 3 else None
        if not self.scope.bases or (called is not None and not self.scope.has_base(called)):
            raise BadName(at)
        for place, column in enumerate(self.scope.columns()):
            if called is None or column[0] == called:
                if self.scope.groups is not None and ("col", place) not in self.scope.groups:
                    raise BadName(at)
                self.exprs.append(self.final(("col", place)))
                self.names.append(column[1])
                self.told.append(column[2])

    def ordered(self, items, terms):
        """The items of ORDER BY over the columns of the select, which gets further columns for them."""
        names = list(self.names)
        found = []
        for item, term in zip(items, terms):
            if term[0] == "name" and term[1] is None and names.count(term[2]) == 1:
                place = names.index(term[2])
            else:
                expr = self.bound_final(term, None)[0]
                if expr not in self.exprs:
                    self.exprs.append(expr)
                place = self.exprs.index(expr)
            found.append((("col", place), item[1], item[2]))
        return tuple(found)
