"""One table of a store: its schema and its rows at each of its versions."""

from entablature.segment import MOST_ROWS, Segment

# So many rows that are gone may lie among those that are there before new segments are made.
SPARE_ROWS = 512


def key_of(line, key):
    """The values of a row in the columns of a key."""
    return tuple([line[at] for at in key])


class Table:
    """The rows lie in segments; settling begins new segments and leaves the old ones to the old versions."""

    def __init__(self, form, start):
        self.form = form
        self.start = start
        self.packing = None
        self.most = MOST_ROWS
        # Pairs of a version and the segments that serve from it on, the last pair for the last version.
        self.layers = [(start, [])]
        # Of the last version: for each row where it lies, as often as it is there, and the keys taken.
        self.spots = {}
        self.taken = [{} for _ in form[2]]
        self.size = 0
        self.lost = 0
        self.counted = None

    def count_of(self, line):
        """How often a row is there at the last version."""
        return len(self.spots.get(line, ()))

    def segments_at(self, now):
        """The segments that serve a version."""
        for start, segments in reversed(self.layers):
            if start <= now:
                return segments
        return []

    def rows_at(self, now):
        """The rows of a version."""
        lines = []
        for segment in self.segments_at(now):
            lines.extend(segment.there(now))
        return lines

    def laid_at(self, now):
        """The segments of a version; their columns are only to be read."""
        told = []
        for segment in self.segments_at(now):
            laid = segment.laid(self.form[1], now)
            if len(laid[2]) < len(segment.lines):
                told.append(laid)
        return told

    def stat(self):
        """How many rows there are at the last version, and how many different values in each column, nulls aside."""
        if self.counted is None:
            columns = []
            for at in range(len(self.form[1])):
                columns.append(len({line[at]: True for line in self.spots if line[at] is not None}))
            self.counted = (self.size, tuple(columns))
        return self.counted

    def clashes(self, steps):
        """Whether two rows would agree in a key, if each row came so many times more as steps tells."""
        for key, taken in zip(self.form[2], self.taken):
            more = {}
            for line, many in steps.items():
                worth = key_of(line, key)
                more[worth] = more.get(worth, 0) + many
            for worth, many in more.items():
                if many > 0 and taken.get(worth, 0) + many > 1:
                    return True
        return False

    def size_after(self, steps):
        """How many rows there would be."""
        return self.size + sum(list(steps.values()))

    def change(self, steps, now):
        """Makes the changes that lead to a version."""
        self.counted = None
        for line, many in steps.items():
            for _ in range(-many):
                self.lose(line, now)
            for _ in range(many):
                self.place(line, now)
            if many != 0:
                self.count_keys(line, many)
        if self.lost > self.size + SPARE_ROWS:
            self.lay_anew(now)

    def lose(self, line, now):
        """Takes a row away."""
        spots = self.spots[line]
        segment, at = spots.pop()
        segment.lose(at, now)
        if not spots:
            del self.spots[line]
        self.size -= 1
        self.lost += 1

    def place(self, line, now):
        """Puts a row into the last segment, or into a new one."""
        segments = self.layers[-1][1]
        if not segments or len(segments[-1].lines) >= self.most:
            segments.append(Segment(self.packing))
        at = segments[-1].take(line, now)
        self.spots.setdefault(line, []).append((segments[-1], at))
        self.size += 1

    def count_keys(self, line, many):
        """Counts the keys of a row that came or went."""
        for key, taken in zip(self.form[2], self.taken):
            worth = key_of(line, key)
            taken[worth] = taken.get(worth, 0) + many
            if taken[worth] == 0:
                del taken[worth]

    def lay_anew(self, now):
        """Makes new segments for the last version."""
        lines = self.rows_at(now)
        if self.layers[-1][0] == now:
            self.layers.pop()
        self.layers.append((now, []))
        self.spots = {}
        self.size = 0
        self.lost = 0
        for line in lines:
            self.place(line, now)

    def settle(self, most, now):
        """Makes new segments of at most so many rows."""
        self.most = most
        self.lay_anew(now)

    def repack(self, packing):
        """Packs all segments by a packing, and those to come."""
        self.packing = packing
        for _, segments in self.layers:
            for segment in segments:
                segment.repack(packing)
