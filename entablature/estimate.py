"""Estimates of how many rows a running plan gives, and of what it costs to run it."""

from entablature.branches import args_of, exprs_of, plans_of
from entablature.nested_steps import has_outer
from entablature.plan import parts
from entablature.running import below, simple

MOST_ROWS = 1000000000000000000
# One row in so many is taken for the answer of a comparison of which nothing is known.
FEW = 10
SOME = 3


class Guess:
    """How many rows there may be, how many different values in each column (None: unknown), and the cost."""

    def __init__(self, many, different, worth):
        self.many = min(max(many, 0), MOST_ROWS)
        self.different = different
        self.worth = worth


def shared(many, among):
    """One in so many rows, rounded up."""
    return -(-many // max(among, 1))


def different_in(expr, guess_columns):
    """How many different values an expression may have, or None."""
    if expr[0] != "col" or guess_columns is None or expr[1] >= len(guess_columns):
        return None
    return guess_columns[expr[1]]


def kept_by(cond, many, columns):
    """How many of so many rows a condition may keep."""
    for part in parts(cond):
        many = kept_by_part(part, many, columns)
    return many


def kept_by_part(part, many, columns):
    """The same for a part of a condition."""
    if part[0] == "const":
        return many if part[2] is True else 0
    if part[0] != "op" or part[1] not in ("eq", "same"):
        return shared(many, SOME)
    told = [different_in(arg, columns) for arg in part[2]]
    known = [one for one in told if one is not None]
    return shared(many, max(known)) if known else shared(many, FEW)


def nested_plans(expr):
    """The plans in an expression, but for those in such plans."""
    found = plans_of(expr)
    for arg in args_of(expr):
        found.extend(nested_plans(arg))
    return found


def levels(many):
    """How many times so many rows can be halved."""
    return max(many, 1).bit_length()


def pair_columns(left, right):
    """The numbers of different values of the columns of both sides."""
    if left.different is None or right.different is None:
        return None
    return left.different + right.different


def join_rows(side, left, right, inner):
    """How many rows a join may give, with so many pairs of partners."""
    if side == "semi":
        return min(left.many, inner)
    if side == "anti":
        return left.many
    least = 0
    if side in ("left", "full"):
        least = left.many
    if side in ("right", "full"):
        least = max(least, right.many)
    return max(least, inner)


class Guessing:
    """Works out guesses by statistics of tables."""

    def __init__(self, stats):
        self.stats = stats

    def nested(self, exprs, many):
        """The cost of the plans in expressions that are worked out for so many rows."""
        total = 0
        for expr in exprs:
            for plan in nested_plans(expr):
                worth = self.guess(simple(plan)).worth
                total += worth * max(many, 1) if has_outer(plan) else worth
        return total

    def guess(self, running):
        """The guess for a running plan."""
        word = running[0]
        if word == "scan":
            return self.scan(running)
        if word == "rows":
            return Guess(len(running[2]), [len(running[2]) for _ in running[1]], len(running[2]))
        inputs = [self.guess(part) for part in below(running)]
        if word in ("loop", "hash", "merge"):
            return self.join(running, inputs[0], inputs[1])
        if len(inputs) == 2:
            return self.both(word, inputs[0], inputs[1])
        extra = self.nested(exprs_of(("group",) + running[1:] if word == "sorted" else running), inputs[0].many)
        return self.unary(running, inputs[0], inputs[0].worth + extra)

    def scan(self, running):
        """The guess for a scan."""
        many, different = self.stats.get(running[1], (0, None))
        many = max(many, 0)
        columns = None if different is None else list(different)
        if running[2] is None:
            return Guess(many, columns, many)
        worth = many + self.nested([running[2]], many)
        return Guess(kept_by(running[2], many, columns), columns, worth)

    def join(self, running, left, right):
        """The guess for a join."""
        word, side = running[0], running[1]
        cond = running[2] if word == "loop" else running[4]
        columns = pair_columns(left, right)
        inner = kept_by(cond, left.many * right.many, columns)
        many = join_rows(side, left, right, inner)
        worth = left.worth + right.worth + many
        if word == "loop":
            worth += left.many * right.many + self.nested([cond], left.many * right.many)
        elif word == "hash":
            worth += 2 * (left.many + right.many)
        else:
            worth += left.many * levels(left.many) + right.many * levels(right.many)
        return Guess(many, left.different if side in ("semi", "anti") else columns, worth)

    def both(self, word, left, right):
        """The guess for a union, an except or a meet."""
        worth = left.worth + right.worth + left.many + right.many
        if word == "union":
            return Guess(left.many + right.many, left.different, worth)
        return Guess(left.many if word == "except" else min(left.many, right.many), left.different, worth)

    def unary(self, running, guess, worth):
        """The guess for a running plan over one input; worth is the cost below it."""
        word, many, columns = running[0], guess.many, guess.different
        if word == "where":
            return Guess(kept_by(running[1], many, columns), columns, worth + many)
        if word == "select":
            told = [different_in(expr, columns) for expr in running[1]]
            return Guess(many, told, worth + many)
        if word == "distinct":
            return Guess(many, columns, worth + many)
        if word in ("group", "sorted"):
            told = [different_in(expr, columns) for expr in running[1]]
            groups = min(self.groups(told, many), many) if told else 1
            worth += many if word == "group" else many * levels(many)
            return Guess(groups, told + [None for _ in running[2]], worth)
        worth += many * levels(many)
        if word == "window":
            return Guess(many, None if columns is None else columns + [None for _ in running[1]], worth)
        many = max(many - running[3], 0)
        return Guess(many if running[2] is None else min(many, running[2]), columns, worth)

    def groups(self, told, many):
        """How many groups so many rows may make by keys with such numbers of different values."""
        groups = 1
        for one in told:
            groups = min(groups * max(many if one is None else one, 1), MOST_ROWS)
        return groups


def size(running, stats):
    """How many rows a running plan may give."""
    return Guessing(stats).guess(running).many


def cost(running, stats):
    """What it may cost to run a running plan."""
    return Guessing(stats).guess(running).worth
