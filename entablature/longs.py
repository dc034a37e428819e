"""Numbers and values written as lists of numbers from 0 to 255."""

from entablature.errors import BadForm
from entablature.value import MOST_TEXT

# Nothing that is packed needs more: no number written is as great as 128 ** 9.
MOST_SEVENS = 9


def write_long(n, out):
    """Puts the sevens of a number from 0 on behind a list."""
    while n >= 128:
        out.append(n % 128 + 128)
        n = n // 128
    out.append(n)


def write_signed(i, out):
    """Puts a number that may be below 0 behind a list."""
    write_long(2 * i if i >= 0 else -2 * i - 1, out)


def write_value(x, kind, out):
    """Puts the bytes of a value behind a list."""
    if kind == "bool":
        out.append(1 if x else 0)
    elif kind == "int":
        write_signed(x, out)
    else:
        write_long(len(x), out)
        out.extend([ord(sign) for sign in x])


class Source:
    """A list of numbers that is read from the left."""

    def __init__(self, data):
        self.data = data
        self.at = 0

    def is_over(self):
        """Whether all is read."""
        return self.at >= len(self.data)

    def octet(self):
        """The next number."""
        if self.at >= len(self.data):
            raise BadForm()
        self.at += 1
        return self.data[self.at - 1]

    def long_number(self):
        """The next number written in sevens."""
        if self.at < len(self.data) and self.data[self.at] < 128:
            self.at += 1
            return self.data[self.at - 1]
        n = 0
        weight = 1
        for _ in range(MOST_SEVENS):
            seven = self.octet()
            if seven < 128:
                return n + seven * weight
            n += (seven - 128) * weight
            weight *= 128
        raise BadForm()

    def long_numbers(self, many):
        """So many next numbers written in sevens."""
        end = self.at + many
        told = self.data[self.at:end]
        if len(told) == many and max(told, default=0) < 128:
            self.at = end
            return told
        return [self.long_number() for _ in range(many)]

    def signed(self):
        """The next number that may be below 0."""
        return signed_of(self.long_number())

    def all_signed(self, many):
        """So many next numbers that may be below 0."""
        return [signed_of(n) for n in self.long_numbers(many)]

    def text(self):
        """The next text; codes that no text has become signs that no text may hold."""
        many = self.long_number()
        if many > MOST_TEXT:
            raise BadForm()
        return "".join([sign_of(self.octet()) for _ in range(many)])

    def value(self, kind):
        """The next value of a kind."""
        if kind == "bool":
            return self.octet() == 1
        if kind == "int":
            return self.signed()
        return self.text()


def signed_of(n):
    """The number that may be below 0 that is written so."""
    return n // 2 if n & 1 == 0 else -(n + 1) // 2


# The signs from the blank to ~ by their codes, the one that no text holds left out.
SIGNS = (
    " !\"#$", "&'()*+,-./0123456789:;<=>?@ABCDEFGHIJKLMNOPQRSTUVWXYZ[\\]^_`abcdefghijklmnopqrstuvwxyz{|}~",
)


def sign_of(code):
    """The sign with a code."""
    if 32 <= code <= 36:
        return SIGNS[0][code - 32]
    if 38 <= code <= 126:
        return SIGNS[1][code - 38]
    raise BadForm()
