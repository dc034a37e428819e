"""Whether what somebody tells of the web is a split, or a closing; any plain value may be told."""

from entablature.tracing import SESSION
from entablature.weaving import FRESH, Weave, Web, do_meet, signed
from entablature.web import CLASS, LITERAL, choices, literals, named, signs_for


def is_tuple(x, many):
    """Whether something is a tuple of so many parts."""
    return type(x) is tuple and len(x) == many


def is_sign(x):
    """Whether something has the form of a sign; a truth value is no whole number."""
    return is_tuple(x, 2) and type(x[0]) is int and type(x[1]) in (int, str)


def are_signs(x, many):
    """Whether something has the form of a tuple of so many signs."""
    return is_tuple(x, many) and all([is_sign(sign) for sign in x])


def is_pair(x):
    """Whether something is a pair of whole numbers."""
    return is_tuple(x, 2) and type(x[0]) is int and type(x[1]) is int


def is_choice(shapes, place, x):
    """Whether something is a choice for a program."""
    shape = shapes[place]
    params = shape[1]
    if not are_signs(x, len(params)):
        return False
    names = named(shape)
    worths = [literals(shapes, kind) for kind in params]
    for at, sign in enumerate(x):
        if sign not in signs_for(params, names, x[:at], worths):
            return False
    return True


class Judge:
    """Looks at the links and the meetings of what is told to be a split, for one choice."""

    def __init__(self, shapes, place, strong, choice):
        self.shapes = shapes
        self.strong = strong
        self.choice = choice
        self.params = shapes[place][1]
        self.names = named(shapes[place])
        self.entries = [signed(entry, choice) for entry in shapes[place][2]]
        self.objects = [entry[1:] for entry in self.entries if entry[0] == "w"]

    def is_way(self, shape, i, sign):
        """Whether a parameter of a link may have a sign."""
        if sign == FRESH:
            return True
        if i not in named(shape):
            return False
        kind = shape[1][i]
        if sign[0] == LITERAL:
            return sign[1] in literals(self.shapes, kind)
        return sign[0] == CLASS and sign in [self.choice[j] for j in self.names if self.params[j] == kind]

    def is_link(self, x):
        """Whether something is a sound link."""
        if not is_tuple(x, 2) or type(x[0]) is not int or not 0 <= x[0] < len(self.shapes):
            return False
        shape = self.shapes[x[0]]
        if not are_signs(x[1], len(shape[1])):
            return False
        if not all([self.is_way(shape, i, sign) for i, sign in enumerate(x[1])]):
            return False
        return not any([entry[0] == "w" and entry[1:] in self.objects for entry in self.entries_of(x)])

    def entries_of(self, link):
        """The entries of a link with their signs."""
        return [signed(entry, link[1]) for entry in self.shapes[link[0]][2]]

    def is_meeting(self, x, before, behind):
        """Whether something is a pair of places of entries that meet."""
        if not is_pair(x) or not 0 <= x[0] < len(before) or not 0 <= x[1] < len(behind):
            return False
        return do_meet(before[x[0]], behind[x[1]])

    def are_meetings(self, meets, links):
        """Whether there is a meeting ahead of each link, and one behind the last."""
        told = [self.entries] + [self.entries_of(link) for link in links] + [self.entries]
        for at, x in enumerate(meets):
            is_session = self.strong and 0 < at < len(links) and is_pair(x) and x == SESSION
            if not is_session and not self.is_meeting(x, told[at], told[at + 1]):
                return False
        return self.entries[meets[0][0]][0] != "w" and told[-2][meets[-1][0]][0] != "w"


def judge_split(shapes, place, strong, told):
    """Whether something is a split of a program."""
    if not is_tuple(told, 3) or not is_choice(shapes, place, told[0]):
        return False
    choice, links, meets = told
    judge = Judge(shapes, place, strong, choice)
    if type(links) is not tuple or len(links) == 0 or not all([judge.is_link(link) for link in links]):
        return False
    return is_tuple(meets, len(links) + 1) and judge.are_meetings(meets, links)


def is_state(x):
    """Whether something has the form of a state."""
    return is_tuple(x, 3) and type(x[0]) is int and type(x[1]) is int and is_sign(x[2])


def layered(x, weave):
    """The masks of the states of each layer that is told; None if these are no different sound states with layers."""
    if type(x) is not tuple:
        return None
    masks = {}
    seen = 0
    for pair in x:
        if not is_tuple(pair, 2) or type(pair[0]) is not int or pair[0] < 1 or not is_state(pair[1]):
            return None
        bit = weave.web.bits.get(pair[1], 0) & weave.sound & ~seen
        if bit == 0:
            return None
        seen = seen | bit
        masks[pair[0]] = masks.get(pair[0], 0) | bit
    return masks


def is_closed(weave, masks, most):
    """Whether states with their layers tell that there is no split with so many links; 0: with any number."""
    reached = 0
    for layer in sorted(masks):
        if most == 0 or layer <= most:
            if masks[layer] & weave.ending:
                return False
            reached = reached | masks[layer]
    if most == 0:
        return (weave.first | weave.onward(reached)) & ~reached == 0
    if weave.first & ~masks.get(1, 0):
        return False
    before = 0
    for layer in sorted(masks):
        before = before | masks[layer]
        if layer < most and weave.onward(masks[layer]) & ~(before | masks.get(layer + 1, 0)):
            return False
    return True


def judge_closing(shapes, place, strong, most, told):
    """Whether something is a closing of a program for at most so many links."""
    ways = choices(shapes, place)
    if not is_tuple(told, len(ways)):
        return False
    web = Web(shapes, place)
    for choice, pair in zip(ways, told):
        if not is_tuple(pair, 2) or not are_signs(pair[0], len(choice)) or pair[0] != choice:
            return False
        weave = Weave(web, choice, strong)
        masks = layered(pair[1], weave)
        if masks is None or (most < 0 and masks) or (most >= 0 and not is_closed(weave, masks, most)):
            return False
    return True
