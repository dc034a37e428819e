"""What an agg tells, worked out value by value."""

from entablature.operators import sized
from entablature.value import least_fault


class AggTally:
    """What is known of the values so far; with distinct, equal values come one behind the other."""

    def __init__(self, name, distinct):
        self.name = name
        self.distinct = distinct
        self.many = 0
        self.fault = None
        self.last = None
        self.worth = None

    def add(self, x):
        """Takes a value; for rows whatever stands for a row."""
        if self.name == "rows":
            self.many += 1
        elif type(x) is tuple:
            self.fault = least_fault([self.fault, x])
        elif x is not None and not (self.distinct and self.many > 0 and x == self.last):
            self.many += 1
            self.last = x
            self.worth = x if self.many == 1 else self.joined(x)

    def joined(self, x):
        """What comes of the values so far and a further one."""
        if self.name in ("sum", "avg"):
            return self.worth + x
        if self.name in ("min", "every"):
            return min(self.worth, x)
        if self.name in ("max", "some"):
            return max(self.worth, x)
        return x

    def told(self):
        """The answer of the agg."""
        if self.fault is not None:
            return self.fault
        if self.name in ("rows", "count"):
            return self.many
        if self.many == 0:
            return None
        if self.name == "sum":
            return sized(self.worth)
        return self.worth // self.many if self.name == "avg" else self.worth
