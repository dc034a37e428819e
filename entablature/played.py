"""The play of a split: runs with values and their steps, that make a ring where a program is loose."""

from entablature.tracing import SESSION
from entablature.weaving import FRESH
from entablature.web import CLASS, literals


def worth_number(shapes, kind, number):
    """The value of a kind with a number, of those that stand in no key."""
    if kind == "bool":
        return False
    taken = literals(shapes, kind)
    at = 0
    while True:
        worth = at if kind == "int" else f"v{at}"
        if worth not in taken:
            if number == 0:
                return worth
            number -= 1
        at += 1


def fresh_key(shape, signs, place):
    """The parameter in the key of an entry, if it is fresh; otherwise None."""
    entry = shape[2][place]
    if entry[0] == "a" or entry[2][0] != "param" or signs[entry[2][1]] != FRESH:
        return None
    return entry[2][1]


def meeting_before(shapes, split, at):
    """For each fresh parameter of a link that meets a fresh one of the link ahead: that one."""
    _, links, meets = split
    if at == 0 or meets[at] == SESSION:
        return {}
    before, now = links[at - 1], links[at]
    one = fresh_key(shapes[before[0]], before[1], meets[at][0])
    other = fresh_key(shapes[now[0]], now[1], meets[at][1])
    return {} if one is None or other is None else {other: one}


def numbers_of(shapes, split):
    """For each link the numbers of the values of its parameters, None where the sign is a literal."""
    choice, links, _ = split
    fresh = len({sign: True for sign in choice if sign[0] == CLASS})
    told = []
    for at, link in enumerate(links):
        meeting = meeting_before(shapes, split, at)
        numbers = []
        for i, sign in enumerate(link[1]):
            if sign == FRESH and i in meeting:
                numbers.append(told[at - 1][meeting[i]])
            elif sign == FRESH:
                numbers.append(fresh)
                fresh += 1
            else:
                numbers.append(sign[1] if sign[0] == CLASS else None)
        told.append(numbers)
    return told


def run_of(shapes, place, signs, numbers):
    """The name of a program and the values of its parameters."""
    name, params, _ = shapes[place]
    values = []
    for kind, sign, number in zip(params, signs, numbers):
        values.append(sign[1] if number is None else worth_number(shapes, kind, number))
    return (name, tuple(values))


def runs_of(shapes, place, split):
    """The runs of the play: the name and the values of each, the program's own first."""
    choice, links, _ = split
    numbers = [sign[1] if sign[0] == CLASS else None for sign in choice]
    told = [run_of(shapes, place, choice, numbers)]
    for link, known in zip(links, numbers_of(shapes, split)):
        told.append(run_of(shapes, link[0], link[1], known))
    return tuple(told)


def sessions_of(split):
    """For each run of the play the number of its session."""
    told = [0]
    for pair in split[2][:-1]:
        told.append(told[-1] if pair == SESSION else told[-1] + 1)
    return tuple(told)


def steps_of(split):
    """The steps of the play."""
    middle = [("run", at + 1) for at in range(len(split[1]))]
    return tuple([("begin", 0)] + middle + [("finish", 0)])
