"""What the functions of a window tell of the rows of one part, which stand in their order."""

from entablature.aggregate import aggregated


def peer_groups(places, columns):
    """For each row of a part the number of its group of peers, from 0."""
    groups = []
    before = None
    for place in places:
        told = [column[place] for column in columns]
        if not groups:
            groups.append(0)
        else:
            groups.append(groups[-1] if told == before else groups[-1] + 1)
        before = told
    return groups


def edge_place(edge, at, many):
    """The place to which an edge leads from a row, among so many rows; it may lie outside of them."""
    word, far = edge
    if word == "start":
        return 0
    if word == "end":
        return many - 1
    if word == "before":
        return at - far
    if word == "after":
        return at + far
    return at


def spans(frame, has_order, groups):
    """For each row where its frame begins, and the place behind it."""
    many = len(groups)
    if frame is not None:
        edges = [(edge_place(frame[0], at, many), edge_place(frame[1], at, many)) for at in range(many)]
        return [(max(low, 0), max(min(high + 1, many), 0)) for low, high in edges]
    if not has_order:
        return [(0, many) for _ in groups]
    ends = {group: at + 1 for at, group in enumerate(groups)}
    return [(0, ends[group]) for group in groups]


def framed(name, args, found):
    """An agg over the rows of each frame."""
    told = []
    for at, (low, high) in enumerate(found):
        if at > 0 and found[at - 1] == (low, high):
            told.append(told[-1])
        else:
            told.append(aggregated(name, False, args[low:high]))
    return told


def part_values(fun, args, groups):
    """What a function of a window tells for each row of a part."""
    name, _, _, order, frame = fun
    if name == "place":
        return [at + 1 for at in range(len(groups))]
    if name == "rank":
        return [groups.index(group) + 1 for group in groups]
    if name == "dense":
        return [group + 1 for group in groups]
    if name == "lag":
        return [None] + args[:-1]
    if name == "lead":
        return args[1:] + [None]
    return framed(name, args, spans(frame, len(order) > 0, groups))
