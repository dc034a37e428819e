"""Splits of a program in the web of programs, closings that tell that there is none, and the least allotment."""

from entablature.tracing import traced
from entablature.weaving import Weave, Web
from entablature.web import choices


def layers(weave, most):
    """The masks of the states of each layer, up to so many layers; 0: of all layers."""
    found = []
    seen = 0
    now = weave.first
    while now and (most == 0 or len(found) < most):
        found.append(now)
        seen = seen | now
        now = weave.onward(now) & ~seen
    return found


def layers_to_end(weave, most):
    """The masks of the layers up to the first one with a state that ends; None if there is none up to so many."""
    if not weave.first or not weave.ending:
        return None
    found = []
    seen = 0
    now = weave.first
    while now and (most == 0 or len(found) < most):
        found.append(now)
        if now & weave.ending:
            return found
        seen = seen | now
        now = weave.onward(now) & ~seen
    return None


def split(shapes, place, strong):
    """A split of a program with the fewest links, or None if there is none."""
    web = Web(shapes, place)
    best = None
    most = 0
    for choice in choices(shapes, place):
        weave = Weave(web, choice, strong)
        told = layers_to_end(weave, most)
        if told is not None:
            best = (weave, told)
            most = len(told) - 1
            if most == 0:
                break
    return None if best is None else traced(best[0], best[1])


def has_split(shapes, place, strong):
    """Whether a program has a split."""
    web = Web(shapes, place)
    for choice in choices(shapes, place):
        if layers_to_end(Weave(web, choice, strong), 0) is not None:
            return True
    return False


def closing(shapes, place, strong, most):
    """For each choice its states with their layers, up to so many links."""
    web = Web(shapes, place)
    told = []
    for choice in choices(shapes, place):
        states = []
        if most >= 0:
            for at, mask in enumerate(layers(Weave(web, choice, strong), most)):
                states.extend([(at + 1, state) for state in web.members(mask)])
        told.append((choice, tuple(states)))
    return tuple(told)


def needed(shapes, strong):
    """The least allotment: whether each program must be strict."""
    return tuple([has_split(shapes, place, strong) for place in range(len(shapes))])


def is_kept(shapes, strict, strong):
    """Whether an allotment keeps the web."""
    for place, is_strict in enumerate(strict):
        if not is_strict and has_split(shapes, place, strong):
            return False
    return True
