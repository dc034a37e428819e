"""The choices of the web: which parameters of a program may have one value."""

CLASS = 0
LITERAL = 1


def keys_of(shape):
    """The keys of a shape."""
    return [entry[2] for entry in shape[2] if entry[0] != "a"]


def is_of_kind(worth, kind):
    """Whether the value of a key is of a kind."""
    return kind == ("int" if type(worth) is int else "text")


def literals(shapes, kind):
    """The values of a kind that stand in keys of shapes, rising."""
    found = {}
    for shape in shapes:
        for key in keys_of(shape):
            if key[0] == "value" and is_of_kind(key[1], kind):
                found[key[1]] = True
    return tuple(sorted(found))


def named(shape):
    """The parameters that stand in a key of a shape, in rising order."""
    return sorted({key[1]: True for key in keys_of(shape) if key[0] == "param"})


def signs_for(params, names, signs, worths):
    """The signs that the next parameter may have behind those that have signs already."""
    at = len(signs)
    fresh = 0
    while (CLASS, fresh) in signs:
        fresh += 1
    found = [(CLASS, fresh)]
    if at in names:
        for other in names:
            if other < at and params[other] == params[at] and signs[other][0] == CLASS and signs[other] not in found:
                found.append(signs[other])
        found.extend([(LITERAL, worth) for worth in worths[at]])
    return sorted(found)


def choices(shapes, place):
    """The choices for a program, in order."""
    shape = shapes[place]
    params = shape[1]
    names = named(shape)
    worths = [literals(shapes, kind) for kind in params]
    told = [()]
    for _ in params:
        told = [signs + (sign,) for signs in told for sign in signs_for(params, names, signs, worths)]
    return tuple(told)
