"""A split, link by link, out of the layers of states that lead to it."""

from entablature.weaving import FRESH, NO_PARAM, do_meet, signed

# Stands for the entries of two links of one session, which need not meet.
SESSION = (-1, -1)


def lowest(mask):
    """The lowest bit of a mask."""
    return mask & -mask


def ways_of(shape, state):
    """The signs of the link that has just the sign of a state, the others fresh."""
    return tuple([state[2] if i == state[1] else FRESH for i in range(len(shape[1]))])


def spots_of(shape, state):
    """The places of the entries by which a state is met, each with the entry and its sign."""
    ways = ways_of(shape, state)
    found = []
    for at, entry in enumerate(shape[2]):
        by = entry[2][1] if entry[0] != "a" and entry[2][0] == "param" else NO_PARAM
        if by == state[1]:
            found.append((at, signed(entry, ways)))
    return found


class Tracing:
    """Finds the links and where they meet, for one choice."""

    def __init__(self, weave):
        self.weave = weave
        self.shapes = weave.web.shapes
        # The entries of the program with their places: those that look, and those that write.
        entries = list(enumerate(weave.entries))
        self.looks = [spot for spot in entries if spot[1][0] != "w"]
        self.writes = [spot for spot in entries if spot[1][0] == "w"]

    def is_sound(self, at, i, sign):
        """Whether a link may have a sign for a parameter."""
        return self.weave.web.bits.get((at, i, sign), 0) & self.weave.sound != 0

    def ways_to(self, state, entry, sign):
        """The signs of a link of a state such that the key of its entry has a sign; None if there are none."""
        shape = self.shapes[state[0]]
        ways = ways_of(shape, state)
        told = signed(entry, ways)
        if sign is None or told[2] is None or told[2] == sign:
            return ways
        if entry[2][0] != "param" or entry[2][1] == state[1] or not self.is_sound(state[0], entry[2][1], sign):
            return None
        return tuple([sign if i == entry[2][1] else way for i, way in enumerate(ways)])

    def way_out(self, state, spots, is_last):
        """The signs of a link of a state and the pair of places of an entry of it and one of some others that meet.

        The last link's entry is one that looks. None if there is no such link.
        """
        for at, entry in enumerate(self.shapes[state[0]][2]):
            if is_last and entry[0] == "w":
                continue
            for place, other in spots:
                ways = self.ways_to(state, entry, other[2])
                if ways is not None and do_meet(signed(entry, ways), other):
                    return ways, (at, place)
        return None

    def between(self, state, after):
        """The signs of a link of a state, and the pair of places by which it meets one of another state."""
        told = self.way_out(state, spots_of(self.shapes[after[0]], after), False)
        if told is None:
            return ways_of(self.shapes[state[0]], state), SESSION
        return told

    def into(self, state):
        """The pair of places by which the program meets a link of the first state."""
        for at, entry in self.looks:
            for place, other in spots_of(self.shapes[state[0]], state):
                if do_meet(entry, other):
                    return (at, place)
        return None


def path_of(weave, masks):
    """The states, one of each layer, each leading on to the next one, of which the last one ends."""
    web = weave.web
    now = lowest(masks[-1] & weave.ending)
    path = [now]
    for at in range(len(masks) - 2, -1, -1):
        for state in web.members(masks[at]):
            if weave.onward(web.bits[state]) & now:
                now = web.bits[state]
                break
        path.append(now)
    return [web.members(bit)[0] for bit in reversed(path)]


def traced(weave, masks):
    """The split along the layers up to a state that ends."""
    tracing = Tracing(weave)
    path = path_of(weave, masks)
    links = []
    meets = [tracing.into(path[0])]
    for at, state in enumerate(path):
        if at + 1 < len(path):
            ways, pair = tracing.between(state, path[at + 1])
        else:
            ways, pair = tracing.way_out(state, tracing.writes, True)
        links.append((state[0], ways))
        meets.append(pair)
    return (weave.choice, tuple(links), tuple(meets))
