"""Plain values written as octets, in one way alone."""

from entablature.errors import BadForm
from entablature.longs import SIGNS
from entablature.value import PERCENT

MOST_DEEP = 400
# Python turns only numbers of few figures into texts at once, so longer ones are turned piece by piece.
PIECE = 60
BASE = 1000000000000000000000000000000000000000000000000000000000000

NONE = 110
NO = 102
YES = 116
NUMBER = 105
TEXT = 115
BEGIN = 40
SHUT = 41
COLON = 58
END = 59
MINUS = 45
NOUGHT = 48
NINE = 57
TAB = 9
FEED = 10
BLANK = 32
LAST = 126


def are_octets(xs):
    """Whether all of some things are numbers from 0 to 255."""
    if not all([type(x) is int for x in xs]):
        return False
    return len(xs) == 0 or (min(xs) >= 0 and max(xs) <= 255)


def is_sign_code(code):
    """Whether a text may have the sign with a code."""
    return (BLANK <= code <= LAST and code != PERCENT) or code in (TAB, FEED)


def figures_of(n):
    """The figures of a number from 0 on."""
    pieces = []
    while n >= BASE:
        n, low = divmod(n, BASE)
        pieces.append(str(low).zfill(PIECE))
    pieces.append(str(n))
    pieces.reverse()
    return "".join(pieces)


def codes_of(text):
    """The codes of the signs of a text."""
    return [ord(sign) for sign in text]


def write_number(n, out):
    """Puts a whole number behind a list of octets."""
    out.append(NUMBER)
    if n < 0:
        out.append(MINUS)
    out.extend(codes_of(figures_of(abs(n))))
    out.append(END)


def write_text(text, out):
    """Puts a text behind a list of octets."""
    codes = codes_of(text)
    if codes and not (min(codes) >= BLANK and max(codes) <= LAST and PERCENT not in codes):
        if not all([is_sign_code(code) for code in codes]):
            raise BadForm()
    out.append(TEXT)
    out.extend(codes_of(figures_of(len(codes))))
    out.append(COLON)
    out.extend(codes)


def write_simple(x, out):
    """Puts a plain value that is no tuple behind a list of octets."""
    if x is None:
        out.append(NONE)
    elif type(x) is bool:
        out.append(YES if x else NO)
    elif type(x) is int:
        write_number(x, out)
    elif type(x) is str:
        write_text(x, out)
    else:
        raise BadForm()


def written(value):
    """The octets of a plain value."""
    out = []
    # Pairs of a value and the number of tuples that it lies in; below 0 where a tuple ends.
    left = [(value, 0)]
    while left:
        x, deep = left.pop()
        if deep > MOST_DEEP:
            raise BadForm()
        if deep < 0:
            out.append(SHUT)
        elif type(x) is tuple:
            out.append(BEGIN)
            left.append((None, -1))
            left.extend([(part, deep + 1) for part in x[::-1]])
        else:
            write_simple(x, out)
    return out


class Reading:
    """Octets that are read from the left."""

    def __init__(self, octets):
        self.octets = octets
        self.at = 0

    def octet(self):
        """The next octet."""
        if self.at >= len(self.octets):
            raise BadForm()
        self.at += 1
        return self.octets[self.at - 1]

    def figures(self, end):
        """A number from 0 on, in figures up to a sign that ends it; no nought stands in front."""
        first = self.at
        n = 0
        piece = 0
        weight = 1
        code = self.octet()
        while NOUGHT <= code <= NINE:
            piece = piece * 10 + code - NOUGHT
            weight = weight * 10
            if weight == BASE:
                n = n * BASE + piece
                piece = 0
                weight = 1
            code = self.octet()
        many = self.at - first - 1
        if code != end or many == 0 or (many > 1 and self.octets[first] == NOUGHT):
            raise BadForm()
        return n * weight + piece

    def number(self):
        """A whole number."""
        if self.at < len(self.octets) and self.octets[self.at] == MINUS:
            self.at += 1
            n = self.figures(END)
            if n == 0:
                raise BadForm()
            return -n
        return self.figures(END)

    def text(self):
        """A text."""
        many = self.figures(COLON)
        codes = self.octets[self.at:self.at + many]
        if len(codes) < many or not all([is_sign_code(code) for code in codes]):
            raise BadForm()
        self.at += many
        return "".join([sign_with(code) for code in codes])

    def simple(self, code):
        """A value that is no tuple and begins with an octet."""
        if code == NUMBER:
            return self.number()
        if code == TEXT:
            return self.text()
        if code == NONE:
            return None
        if code == YES or code == NO:
            return code == YES
        raise BadForm()

    def value(self):
        """A plain value."""
        # For each tuple that is not at its end its parts so far.
        levels = []
        while True:
            code = self.octet()
            if code == SHUT:
                if not levels:
                    raise BadForm()
                told = tuple(levels.pop())
            elif len(levels) > MOST_DEEP:
                raise BadForm()
            elif code == BEGIN:
                levels.append([])
                continue
            else:
                told = self.simple(code)
            if not levels:
                return told
            levels[-1].append(told)


def sign_with(code):
    """The sign with a code that a text may have."""
    if code > PERCENT:
        return SIGNS[1][code - PERCENT - 1]
    if code >= BLANK:
        return SIGNS[0][code - BLANK]
    return "\n" if code == FEED else "\t"


def read(octets):
    """The plain value that is written so."""
    if type(octets) is not list or not are_octets(octets):
        raise BadForm()
    reading = Reading(octets)
    told = reading.value()
    if reading.at != len(octets):
        raise BadForm()
    return told
