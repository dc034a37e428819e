"""Histories of runs: the graph of what must stand ahead of what, orders and rings."""

from heapq import heapify, heappop, heappush

from entablature.programs import run_footprint

SORTS = ("ww", "wr", "rw", "so")


class Traces:
    """Where the runs of a history write, read and ask, by objects and by tables."""

    def __init__(self, history, footprints):
        self.history = history
        # By runs: the objects that they write and read, and the tables that they ask, as the keys of dicts.
        self.writes = []
        self.reads = []
        self.asks = []
        # By objects, and by tables: the runs that write there.
        self.writers = {}
        self.writers_in = {}
        for at, run in enumerate(history):
            self.put(at, run_footprint(footprints[run[0]], run[1]))

    def put(self, at, footprint):
        """Puts the footprint of a run down."""
        found = {"w": {}, "r": {}, "a": {}}
        for entries in footprint:
            for entry in entries:
                found[entry[0]][entry[1] if entry[0] == "a" else (entry[1], entry[2])] = True
        self.writes.append(found["w"])
        self.reads.append(found["r"])
        self.asks.append(found["a"])
        for spot in found["w"]:
            self.writers.setdefault(spot, []).append(at)
            runs = self.writers_in.setdefault(spot[0], {})
            runs[at] = True

    def looked_behind(self, at):
        """The runs that write what a run reads or asks, as the keys of a dict."""
        found = {}
        for spot in self.reads[at]:
            for other in self.writers.get(spot, []):
                found[other] = True
        for table in self.asks[at]:
            for other in self.writers_in.get(table, {}):
                found[other] = True
        return found

    def written_too(self, at):
        """The runs that write what a run writes."""
        found = {}
        for spot in self.writes[at]:
            for other in self.writers[spot]:
                found[other] = True
        return found

    def is_rw(self, a, b):
        """Whether a run looked at what another one wrote behind its snapshot."""
        if a == b or self.history[b][4] <= self.history[a][3]:
            return False
        for spot in self.writes[b]:
            if spot in self.reads[a] or spot[0] in self.asks[a]:
                return True
        return False

    def do_write_one(self, a, b):
        """Whether two runs write one object."""
        return any([spot in self.writes[b] for spot in self.writes[a]])


def sorts_by_edges(history, footprints, sessions):
    """For each edge of the graph its sorts, as the keys of dicts."""
    traces = Traces(history, footprints)
    edges = {}
    for at, run in enumerate(history):
        for other in traces.written_too(at):
            if run[4] < history[other][4]:
                edges.setdefault((at, other), {})["ww"] = True
        for other in traces.looked_behind(at):
            if other == at:
                continue
            if history[other][4] <= run[3]:
                edges.setdefault((other, at), {})["wr"] = True
            else:
                edges.setdefault((at, other), {})["rw"] = True
    for session in sessions:
        for at in range(len(session) - 1):
            edges.setdefault((session[at], session[at + 1]), {})["so"] = True
    return edges


def graph(history, footprints, sessions=()):
    """The edges of the graph of a history: triples of a run, another one and the sorts of the edge, rising."""
    edges = sorts_by_edges(history, footprints, sessions)
    return [edge + (tuple([sort for sort in SORTS if sort in edges[edge]]),) for edge in sorted(edges)]


def ways_from(edges, many):
    """For each of so many runs those to which edges lead from it, rising."""
    ways = [[] for _ in range(many)]
    for a, b in sorted(edges):
        ways[a].append(b)
    return ways


def least_order(ways):
    """The least order of places such that all ways lead on, or as much of it as there is ahead of rings."""
    ahead = [0 for _ in ways]
    for way in ways:
        for b in way:
            ahead[b] += 1
    free = [at for at, many in enumerate(ahead) if many == 0]
    heapify(free)
    told = []
    while free:
        at = heappop(free)
        told.append(at)
        for b in ways[at]:
            ahead[b] -= 1
            if ahead[b] == 0:
                heappush(free, b)
    return tuple(told)


def first_order(history, footprints, sessions=()):
    """The least order of the runs such that all edges lead on, or None."""
    told = least_order(ways_from(sorts_by_edges(history, footprints, sessions), len(history)))
    return told if len(told) == len(history) else None


def steps_back(back, first, most):
    """For each run that leads to the first one, over greater ones alone, by how few edges; at most so many."""
    found = {}
    now = {first: True}
    for many in range(1, most + 1):
        before = {}
        for b in now:
            for a in back[b]:
                if a >= first and a not in found:
                    found[a] = many
                    before[a] = True
        if first in found:
            break
        now = before
    return found


def first_ring(history, footprints, sessions=()):
    """Of the shortest rings the least one, or None."""
    edges = sorts_by_edges(history, footprints, sessions)
    ways = ways_from(edges, len(history))
    back = ways_from([(b, a) for a, b in edges], len(history))
    settled = {at: True for at in least_order(ways)}
    most = len(history)
    best = None
    for first in [at for at in range(len(history)) if at not in settled]:
        far = steps_back(back, first, most)
        if first in far:
            best = (first, far)
            # Only a shorter one would be told instead.
            most = far[first] - 1
    if best is None:
        return None
    first, far = best
    ring = [first]
    while len(ring) < far[first]:
        left = far[first] - len(ring)
        ring.append([b for b in ways[ring[-1]] if b > first and far.get(b) == left][0])
    return tuple(ring)


def is_order(history, footprints, order, sessions=()):
    """Whether a tuple of whole numbers is an order."""
    if sorted(order) != list(range(len(history))):
        return False
    places = {at: place for place, at in enumerate(order)}
    edges = sorts_by_edges(history, footprints, sessions)
    return all([places[a] < places[b] for a, b in edges])


def is_ring(history, footprints, ring, sessions=()):
    """Whether a tuple of places is a ring."""
    if len(ring) < 2 or len({at for at in ring}) != len(ring):
        return False
    edges = sorts_by_edges(history, footprints, sessions)
    return all([(ring[at - 1], ring[at]) in edges for at in range(len(ring))])


def keeps(history, session):
    """Whether each run of a session has a snapshot that is at least the version of each one ahead of it."""
    last = None
    for at in session:
        if last is not None and history[at][3] < last:
            return False
        last = history[at][4] if last is None else max(last, history[at][4])
    return True


def split_in(history, footprints, ring):
    """The run of a ring whose program has a split, and the others, from the one with the least version on; or None."""
    least = min([history[at][4] for at in ring])
    first = [at for at in ring if history[at][4] == least]
    committed = [at for at in first if history[at][3] < least]
    start = min(committed if committed else first)
    place = ring.index(start)
    others = ring[place:] + ring[:place]
    pivot, before = others[-1], others[-2]
    traces = Traces(history, footprints)
    if not traces.is_rw(pivot, start) or not traces.is_rw(before, pivot):
        return None
    if any([traces.do_write_one(pivot, at) for at in others[:-1]]):
        return None
    return pivot, others[:-1]
