"""What an agg tells of the values of a group or a frame."""

from entablature.operators import sized
from entablature.value import least_fault


def different(values):
    """Of equal values one."""
    return list({x: True for x in values})


def aggregated(name, distinct, values):
    """The answer of an agg; for rows the values are whatever stands for the rows."""
    if name == "rows":
        return len(values)
    told = [x for x in values if x is not None]
    found = least_fault(told)
    if found is not None:
        return found
    if distinct:
        told = different(told)
    if name == "count":
        return len(told)
    if not told:
        return None
    if name == "sum":
        return sized(sum(told))
    if name == "avg":
        return sum(told) // len(told)
    if name == "min":
        return min(told)
    if name == "max":
        return max(told)
    return all(told) if name == "every" else any(told)
