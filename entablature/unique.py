"""The keys of plans, kept in such a way that they need not be told one by one.

A join has as many keys as there are pairs of keys of its sides, so that those of many tables are very many; whether
some of them lies within certain columns is told from the sides alone, and those that do are listed without the others.
columns is a dict, of which the keys count.
"""


def shifted(key, many):
    """A key of the right side among the columns of both sides."""
    return tuple([at + many for at in key])


def each_once(keys):
    """The keys without those that stand there a second time."""
    return list({key: True for key in keys})


class OwnKeys:
    """Keys that are told one by one, and those of a plan whose rows they are, if there is one."""

    def __init__(self, told, below=None):
        self.told = told
        self.below = below

    def holds(self, columns):
        """Whether a key lies within some columns."""
        for key in self.told:
            if all([at in columns for at in key]):
                return True
        return self.below is not None and self.below.holds(columns)

    def is_any(self):
        """Whether there is a key."""
        return len(self.told) > 0 or (self.below is not None and self.below.is_any())

    def listed(self, columns):
        """The keys that lie within some columns, one by one."""
        found = [key for key in self.told if all([at in columns for at in key])]
        return each_once(found + ([] if self.below is None else self.below.listed(columns)))


class JoinedKeys:
    """The keys of a join: of a key of each side, and perhaps those of one side, or of each."""

    def __init__(self, left, right, many, is_left_key, is_right_key):
        self.left = left
        self.right = right
        # The number of columns of the left side.
        self.many = many
        self.is_left_key = is_left_key
        self.is_right_key = is_right_key

    def settled(self, has_left, has_right):
        """Whether there is a key, if each side has one or not."""
        return (has_left and (has_right or self.is_left_key)) or (has_right and self.is_right_key)

    def of_left(self, columns):
        """Those of some columns that are of the left side."""
        return {at: True for at in columns if at < self.many}

    def of_right(self, columns):
        """Those of some columns that are of the right side, among its own columns."""
        return {at - self.many: True for at in columns if at >= self.many}

    def holds(self, columns):
        """Whether a key lies within some columns."""
        return self.settled(self.left.holds(self.of_left(columns)), self.right.holds(self.of_right(columns)))

    def is_any(self):
        """Whether there is a key."""
        return self.settled(self.left.is_any(), self.right.is_any())

    def listed(self, columns):
        """The keys that lie within some columns, one by one."""
        left = self.left.listed(self.of_left(columns))
        right = [shifted(key, self.many) for key in self.right.listed(self.of_right(columns))]
        found = [key + other for key in left for other in right]
        if self.is_left_key:
            found.extend(left)
        if self.is_right_key:
            found.extend(right)
        # Only an empty key makes two of them the same.
        return each_once(found) if () in left or () in right else found


class ChosenKeys:
    """The keys of a select: places tells for columns of its input where they stand first."""

    def __init__(self, below, places):
        self.below = below
        self.places = places

    def behind(self, columns):
        """The columns of the input that stand in some columns."""
        return {at: True for at, place in self.places.items() if place in columns}

    def holds(self, columns):
        """Whether a key lies within some columns."""
        return self.below.holds(self.behind(columns))

    def is_any(self):
        """Whether there is a key."""
        return self.below.holds(self.places)

    def listed(self, columns):
        """The keys that lie within some columns, one by one."""
        return [tuple(sorted([self.places[at] for at in key])) for key in self.below.listed(self.behind(columns))]
