"""The states of the web and how they lead on, as whole numbers of which each bit stands for a state.

A state is (program, parameter, sign); a link is sound exactly if each of its signs by itself is, and what the keys
without parameters write. So what a link leads on to is told parameter by parameter.
"""

from entablature.web import CLASS, LITERAL, literals, named

FRESH = (2, 0)
# Stands in the place of a parameter where a link is met by an ask, by a literal, or by its session.
NO_PARAM = -1


def key_sign(key, signs):
    """The sign of a key, if the parameters have such signs."""
    return signs[key[1]] if key[0] == "param" else (LITERAL, key[1])


def signed(entry, signs):
    """An entry with the sign of its key, None for an ask."""
    return (entry[0], entry[1], None if entry[0] == "a" else key_sign(entry[2], signs))


def do_meet(one, other):
    """Whether two entries with their signs meet."""
    if one[1] != other[1] or (one[0] != "w" and other[0] != "w"):
        return False
    return one[0] == "a" or other[0] == "a" or one[2] == other[2]


def put_bits(masks, key, bits):
    """Puts more bits under a key."""
    masks[key] = masks.get(key, 0) | bits


class Web:
    """The states of all programs for one of them, whatever its choice, and what meets them."""

    def __init__(self, shapes, place):
        self.shapes = shapes
        self.place = place
        self.names = [named(shape) for shape in shapes]
        self.worths = {kind: literals(shapes, kind) for kind in ("bool", "int", "text")}
        # The states, rising; the bit of each; for each program those of each parameter, and all of them.
        self.states = []
        self.bits = {}
        self.of_param = [{} for _ in shapes]
        self.whole = [0 for _ in shapes]
        # The states that have no parameter, those whose sign is no class, and those of a class by its kind.
        self.bare = 0
        self.classless = 0
        self.of_class = {}
        for at in range(len(shapes)):
            self.number(at)
        # By tables and signs: the states that are met by a key that reads, and by one that writes.
        self.reads = {}
        self.writes = {}
        # By tables: the states that are met by an ask, and by any key that writes.
        self.asks = {}
        self.written = {}
        for at in range(len(shapes)):
            self.place_entries(at)
        self.reached = {}
        self.own = [{i: self.ways_out(at, i) for i in self.of_param[at]} for at in range(len(shapes))]

    def signs_for(self, kind):
        """The signs that a parameter of a kind may have in a state, rising."""
        params = self.shapes[self.place][1]
        many = len(params) if kind in [params[i] for i in self.names[self.place]] else 0
        return [(CLASS, n) for n in range(many)] + [(LITERAL, worth) for worth in self.worths[kind]] + [FRESH]

    def number(self, at):
        """Numbers the states of a program."""
        for i in [NO_PARAM] + self.names[at]:
            signs = [FRESH] if i == NO_PARAM else self.signs_for(self.shapes[at][1][i])
            for sign in signs:
                bit = 1 << len(self.states)
                self.states.append((at, i, sign))
                self.bits[(at, i, sign)] = bit
                put_bits(self.of_param[at], i, bit)
                if sign[0] == CLASS:
                    put_bits(self.of_class, (self.shapes[at][1][i], sign[1]), bit)
                else:
                    self.classless = self.classless | bit
            self.whole[at] = self.whole[at] | self.of_param[at][i]
        self.bare = self.bare | self.of_param[at][NO_PARAM]

    def place_entries(self, at):
        """Puts the states of a program under the tables and signs by which they are met."""
        bare = self.of_param[at][NO_PARAM]
        for entry in self.shapes[at][2]:
            word, table = entry[0], entry[1]
            if word == "a":
                put_bits(self.asks, table, bare)
                continue
            found = {}
            if entry[2][0] == "value":
                found[(LITERAL, entry[2][1])] = bare
            else:
                i = entry[2][1]
                for sign in self.signs_for(self.shapes[at][1][i]):
                    found[sign] = self.bits[(at, i, sign)]
            for sign, bits in found.items():
                put_bits(self.reads if word == "r" else self.writes, (table, sign), bits)
                if word == "w":
                    put_bits(self.written, table, bits)

    def met_by(self, spot):
        """The states that are met by an entry with its sign."""
        if spot not in self.reached:
            word, table, sign = spot
            if word == "a":
                self.reached[spot] = self.written.get(table, 0)
            else:
                found = self.writes.get((table, sign), 0)
                if word == "w":
                    found = found | self.reads.get((table, sign), 0) | self.asks.get(table, 0)
                self.reached[spot] = found
        return self.reached[spot]

    def ways_out(self, at, i):
        """Pairs of the bit of a state of a parameter, and what its links meet by that parameter with that sign.

        For no parameter: what they meet by asks and literals.
        """
        entries = [entry for entry in self.shapes[at][2] if self.param_of(entry) == i]
        signs = {NO_PARAM: FRESH} if i == NO_PARAM else {}
        ways = []
        for state in self.states:
            if state[0] == at and state[1] == i:
                signs[i] = state[2]
                found = 0
                for entry in entries:
                    found = found | self.met_by(signed(entry, signs))
                ways.append((self.bits[state], found))
        return ways

    def param_of(self, entry):
        """The parameter in the key of an entry."""
        return entry[2][1] if entry[0] != "a" and entry[2][0] == "param" else NO_PARAM

    def members(self, mask):
        """The states of a mask, rising."""
        return [state for at, state in enumerate(self.states) if mask >> at & 1]


class Weave:
    """The web for one choice of the program."""

    def __init__(self, web, choice, strong):
        self.web = web
        self.choice = choice
        self.strong = strong
        self.entries = [signed(entry, choice) for entry in web.shapes[web.place][2]]
        # The program's objects; what stands behind a key counts for nothing.
        self.objects = {(entry[1], entry[2]): True for entry in self.entries if entry[0] == "w"}
        self.sound = self.allowed() & ~self.barred()
        self.first = 0
        for entry in self.entries:
            if entry[0] != "w":
                self.first = self.first | web.met_by(entry)
        self.first = self.first & self.sound
        self.ending = self.ends()
        # By programs and parameters: all that sound links meet by that parameter.
        self.outs = {}

    def allowed(self):
        """The states whose signs a link may have for this choice."""
        web = self.web
        params = web.shapes[web.place][1]
        found = web.classless
        for i in web.names[web.place]:
            if self.choice[i][0] == CLASS:
                found = found | web.of_class.get((params[i], self.choice[i][1]), 0)
        return found

    def barred(self):
        """The states of links that write an object of the program."""
        web = self.web
        found = 0
        for spot in self.objects:
            found = found | web.writes.get(spot, 0)
        for at, whole in enumerate(web.whole):
            if found & web.of_param[at][NO_PARAM]:
                found = found | whole
        return found

    def ends(self):
        """The states that end."""
        web = self.web
        met = 0
        for spot in self.objects:
            met = met | web.reads.get(spot, 0) | web.asks.get(spot[0], 0)
        met = met & self.sound
        found = met
        for at, whole in enumerate(web.whole):
            if not met & whole:
                continue
            by = [i for i, many in web.of_param[at].items() if met & many]
            # A link that is met by one parameter may end by another one, or without any.
            if len(by) > 1 or by[0] == NO_PARAM:
                found = found | whole
            else:
                found = found | (whole & ~web.of_param[at][by[0]])
        return found & self.sound

    def out_by(self, at, i):
        """All that sound links of a program meet by a parameter, whatever sign it has."""
        if (at, i) not in self.outs:
            found = 0
            for bit, met in self.web.own[at][i]:
                if bit & self.sound:
                    found = found | met
            self.outs[(at, i)] = found
        return self.outs[(at, i)]

    def out_of(self, at, part):
        """What links of a program meet that stand for some of its states."""
        web = self.web
        by = [i for i, many in web.of_param[at].items() if part & many]
        found = 0
        for i in web.of_param[at]:
            if by != [i] or i == NO_PARAM:
                found = found | self.out_by(at, i)
        if len(by) == 1:
            for bit, met in web.own[at][by[0]]:
                if part & bit:
                    found = found | met
        return found

    def onward(self, mask):
        """The states to which those of a mask lead on."""
        found = 0
        for at, whole in enumerate(self.web.whole):
            part = mask & whole
            if part:
                found = found | self.out_of(at, part)
        if self.strong and mask:
            found = found | self.web.bare
        return found & self.sound
