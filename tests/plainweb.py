"""The web read a second time: choices, links, states and layers by plain searches, and drawn shapes."""

import itertools

FRESH = (2, 0)
TABLES = {"t": "int", "u": "text", "v": "int"}


def drawn(rnd, programs=4, params=3, entries=8, worths=2):
    """Some shapes; keys are of the kinds of their tables."""
    numbers = rnd.sample(range(-1, 4), worths)
    texts = rnd.sample(["v0", "v1", "a", ""], worths)
    shapes = []
    for at in range(rnd.randrange(1, programs + 1)):
        kinds = tuple([rnd.choice(("int", "int", "text", "bool")) for _ in range(rnd.randrange(0, params + 1))])
        found = []
        for _ in range(rnd.randrange(0, entries + 1)):
            table = rnd.choice("ttuv")
            if rnd.random() < 0.12:
                found.append(("a", table))
                continue
            fit = [i for i, kind in enumerate(kinds) if kind == TABLES[table]]
            if fit and rnd.random() < 0.8:
                key = ("param", rnd.choice(fit))
            else:
                key = ("value", rnd.choice(numbers if TABLES[table] == "int" else texts))
            found.append((rnd.choice("rwrw"), table, key))
        shapes.append(("p%d" % at, kinds, tuple(found)))
    return tuple(shapes)


def literals(shapes, kind):
    found = {entry[2][1] for shape in shapes for entry in shape[2] if entry[0] != "a" and entry[2][0] == "value"}
    return sorted([x for x in found if isinstance(x, int) == (kind == "int") and kind != "bool"])


def named(shape, i):
    return any([entry[0] != "a" and entry[2] == ("param", i) for entry in shape[2]])


def sign_of(key, signs):
    return signs[key[1]] if key[0] == "param" else (1, key[1])


def signed(entry, signs):
    return entry if entry[0] == "a" else (entry[0], entry[1], sign_of(entry[2], signs))


def meet(a, b):
    return a[1] == b[1] and "w" in (a[0], b[0]) and ("a" in (a[0], b[0]) or a[2] == b[2])


def choices(shapes, place):
    """All choices for a program, in order."""
    shape = shapes[place]
    many = len(shape[1])
    signs = [[(0, n) for n in range(many)] + [(1, v) for v in literals(shapes, kind)] for kind in shape[1]]
    found = []
    for choice in itertools.product(*signs):
        fits = True
        for i, sign in enumerate(choice):
            least = min(set(range(many + 1)) - {told[1] for told in choice[:i] if told[0] == 0})
            if sign == (0, least):
                continue
            like = [j for j in range(i) if named(shape, j) and shape[1][j] == shape[1][i] and choice[j] == sign]
            fits = fits and named(shape, i) and (sign[0] == 1 or bool(like))
        if fits:
            found.append(choice)
    return sorted(found)


class Web:
    """The web for one choice."""

    def __init__(self, shapes, place, choice, strong):
        self.shapes = shapes
        self.strong = strong
        self.entries = [signed(entry, choice) for entry in shapes[place][2]]
        self.objects = [entry[1:] for entry in self.entries if entry[0] == "w"]
        params = shapes[place][1]
        self.classes = {kind: {choice[i] for i in range(len(params)) if params[i] == kind and choice[i][0] == 0 and
                               named(shapes[place], i)} for kind in ("int", "text", "bool")}

    def signs(self, at, i):
        """The signs that a parameter of a link may have."""
        if not named(self.shapes[at], i):
            return [FRESH]
        kind = self.shapes[at][1][i]
        return sorted(self.classes[kind]) + [(1, v) for v in literals(self.shapes, kind)] + [FRESH]

    def is_sound(self, at, ways):
        return not any([entry[0] == "w" and entry[1:] in self.objects for entry in self.told(at, ways)])

    def told(self, at, ways):
        return [signed(entry, ways) for entry in self.shapes[at][2]]

    def links(self):
        """All sound links."""
        found = []
        for at, shape in enumerate(self.shapes):
            for ways in itertools.product(*[self.signs(at, i) for i in range(len(shape[1]))]):
                if self.is_sound(at, ways):
                    found.append((at, ways))
        return found

    def fewest(self):
        """The least number of links of a split, or None."""
        links = self.links()
        told = [self.told(*link) for link in links]
        looks = [entry for entry in self.entries if entry[0] != "w"]
        writes = [entry for entry in self.entries if entry[0] == "w"]
        now = [n for n in range(len(links)) if any([meet(a, b) for a in looks for b in told[n]])]
        ends = {n for n in range(len(links)) if any([meet(a, b) for a in told[n] if a[0] != "w" for b in writes])}
        seen = set(now)
        many = 1
        while now:
            if ends & set(now):
                return many
            many += 1
            points = {entry for n in now for entry in told[n]}
            after = []
            for n in range(len(links)):
                if n not in seen and (self.strong or any([meet(a, b) for a in points for b in told[n]])):
                    after.append(n)
            seen.update(after)
            now = after
        return None

    # States, by the words of the document.

    def states(self):
        """All sound states."""
        found = []
        for at, shape in enumerate(self.shapes):
            for i in [-1] + [i for i in range(len(shape[1])) if named(shape, i)]:
                for sign in [FRESH] if i == -1 else self.signs(at, i):
                    if self.is_sound(at, self.ways(at, {i: sign})):
                        found.append((at, i, sign))
        return found

    def ways(self, at, told):
        return tuple([told.get(i, FRESH) for i in range(len(self.shapes[at][1]))])

    def met_by(self, state):
        """The entries by which a state is met."""
        at, i, sign = state
        told = self.told(at, self.ways(at, {i: sign}))
        found = []
        for entry, plain in zip(told, self.shapes[at][2]):
            bare = plain[0] == "a" or plain[2][0] == "value"
            if (bare and i == -1) or (not bare and plain[2][1] == i):
                found.append(entry)
        return found

    def links_of(self, state):
        """The sound links of a state with at most one other parameter that is not fresh."""
        at, i, sign = state
        for j in range(len(self.shapes[at][1])):
            for other in self.signs(at, j) if j != i else [sign]:
                ways = self.ways(at, {j: other, i: sign})
                if self.is_sound(at, ways):
                    yield self.told(at, ways)
        if not self.shapes[at][1] and self.is_sound(at, ()):
            yield self.told(at, ())

    def is_first(self, state):
        return any([meet(a, b) for a in self.entries if a[0] != "w" for b in self.met_by(state)])

    def ends(self, state):
        writes = [entry for entry in self.entries if entry[0] == "w"]
        return any([meet(a, b) for link in self.links_of(state) for a in link if a[0] != "w" for b in writes])

    def onward(self, state, states):
        """The states to which one leads on."""
        points = {entry for link in self.links_of(state) for entry in link}
        return [other for other in states if (self.strong and other[1] == -1) or
                any([meet(a, b) for a in points for b in self.met_by(other)])]

    def layers(self):
        """The states with their layers, rising."""
        states = self.states()
        found = {state: 1 for state in states if self.is_first(state)}
        now = list(found)
        while now:
            after = []
            for state in now:
                for other in self.onward(state, states):
                    if other not in found:
                        found[other] = found[state] + 1
                        after.append(other)
            now = after
        return sorted([(layer, state) for state, layer in found.items()])


def fewest(shapes, place, strong):
    """The least number of links of a split over all choices, or None."""
    found = [Web(shapes, place, choice, strong).fewest() for choice in choices(shapes, place)]
    return min([many for many in found if many is not None], default=None)


def closing(shapes, place, strong, most):
    """The closing, by the words of the document."""
    told = []
    for choice in choices(shapes, place):
        states = [] if most == -1 else Web(shapes, place, choice, strong).layers()
        told.append((choice, tuple([pair for pair in states if most == 0 or pair[0] <= most])))
    return tuple(told)


def is_closing(shapes, place, strong, most, told):
    """Whether a tuple of the right form is a closing, by the words of the document."""
    if [pair[0] for pair in told] != choices(shapes, place):
        return False
    for choice, states in told:
        web = Web(shapes, place, choice, strong)
        known = {state: layer for layer, state in states}
        sound = web.states()
        if len(known) != len(states) or any([state not in sound for state in known]) or min(known.values(), default=1) < 1:
            return False
        if most == -1:
            if known:
                return False
            continue
        if any([web.is_first(state) and (known.get(state) != 1 if most else state not in known) for state in sound]):
            return False
        for state, layer in known.items():
            if (most == 0 or layer <= most) and web.ends(state):
                return False
            if most == 0 or layer < most:
                for other in web.onward(state, sound):
                    if other not in known or (most and known[other] > layer + 1):
                        return False
    return True


def is_split(shapes, place, strong, told):
    """Whether any plain value is a split, by the words of the document; repr tells truth values from numbers."""
    if not isinstance(told, tuple) or len(told) != 3 or repr(told[0]) not in [repr(one) for one in choices(shapes, place)]:
        return False
    choice, links, meets = told
    web = Web(shapes, place, choice, strong)
    known = {repr(link): link for link in web.links()}
    if not isinstance(links, tuple) or not links or any([repr(link) not in known for link in links]):
        return False
    if not isinstance(meets, tuple) or len(meets) != len(links) + 1:
        return False
    entries = [web.entries] + [web.told(*link) for link in links] + [web.entries]
    for at, pair in enumerate(meets):
        fit = [(i, j) for i, a in enumerate(entries[at]) for j, b in enumerate(entries[at + 1]) if meet(a, b) and
               (at > 0 or a[0] != "w") and (at < len(links) or a[0] != "w")]
        if strong and 0 < at < len(links):
            fit.append((-1, -1))
        if repr(pair) not in [repr(one) for one in fit]:
            return False
    return True


def turned(rnd, x, odd):
    """A plain value with something in it changed at one place."""
    if isinstance(x, tuple) and x and rnd.random() < 0.85:
        at = rnd.randrange(len(x))
        way = rnd.random()
        if way < 0.7:
            return x[:at] + (turned(rnd, x[at], odd),) + x[at + 1:]
        if way < 0.78:
            return x[:at] + x[at + 1:]
        if way < 0.86:
            return x[:at] + (x[at], x[at]) + x[at + 1:]
        if way < 0.92:
            return x + (rnd.choice(odd),)
        return tuple(rnd.sample(x, len(x)))
    if type(x) is int and rnd.random() < 0.7:
        return rnd.choice((x + 1, x - 1, -x, x == 1, x == 0))
    return rnd.choice(odd + (x, (x,)))
