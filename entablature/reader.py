"""The things of a query, one after the other, as the grammar reads them."""

from entablature.errors import BadText, TooMuch
from entablature.names import is_reserved
from entablature.words import things_of

MOST_NESTED = 12
MOST_LISTS = 60
MOST_ROWS = 2000


def sorted_out(thing):
    """The same thing, reserved words being of their own sort, in capital letters."""
    sort, worth, at = thing
    if sort == "word" and is_reserved(worth):
        return ("key", worth.upper(), at)
    return thing


class Reader:
    """Reads things from the left; the last one is the end, or the place where there is no thing."""

    def __init__(self, text):
        things, wrong = things_of(text)
        self.things = [sorted_out(thing) for thing in things]
        self.things.append(("end", None, len(text) if wrong < 0 else wrong))
        self.whole = wrong < 0
        self.at = 0
        self.nested = 0
        self.lists = 0

    def place(self):
        """The place of the next thing."""
        return self.things[self.at][2]

    def ahead(self, far):
        """The sort and the worth of a thing further on."""
        at = min(self.at + far, len(self.things) - 1)
        return self.things[at][:2]

    def is_key(self, word):
        """Whether the next thing is this reserved word."""
        return self.ahead(0) == ("key", word)

    def is_mark(self, mark):
        """Whether the next thing is this mark."""
        return self.ahead(0) == ("mark", mark)

    def is_sort(self, sort):
        """Whether the next thing is of this sort."""
        return self.things[self.at][0] == sort

    def fail(self):
        """The next thing is a mistake."""
        raise BadText(self.place())

    def skip(self):
        """Goes on behind the next thing, and tells its worth."""
        self.at += 1
        return self.things[self.at - 1][1]

    def take_key(self, word):
        """Takes a reserved word, if it is the next thing."""
        if self.is_key(word):
            self.at += 1
            return True
        return False

    def take_mark(self, mark):
        """Takes a mark, if it is the next thing."""
        if self.is_mark(mark):
            self.at += 1
            return True
        return False

    def need_key(self, word):
        """Takes a reserved word that must be there."""
        if not self.take_key(word):
            self.fail()

    def need_mark(self, mark):
        """Takes a mark that must be there."""
        if not self.take_mark(mark):
            self.fail()

    def need_name(self):
        """Takes a name that must be there, and tells it."""
        if not self.is_sort("word"):
            self.fail()
        return self.skip()

    def need_small(self):
        """Takes a number that must be there and must not be too great."""
        if not self.is_sort("number") or self.things[self.at][1] > MOST_ROWS:
            self.fail()
        return self.skip()

    def need_end(self):
        """There must be nothing more."""
        if not self.whole or not self.is_sort("end"):
            self.fail()

    def go_in(self):
        """Something begins here that is nested in what is around it."""
        self.nested += 1
        if self.nested > MOST_NESTED:
            self.fail()

    def go_out(self):
        """It is over."""
        self.nested -= 1

    def open_list(self):
        """A list of IN begins."""
        self.lists += 1
        if self.lists > MOST_LISTS:
            raise TooMuch()

    def close_list(self):
        """It is over."""
        self.lists -= 1

    def begins_query(self, far):
        """Whether a thing further on is a word with which a query begins."""
        return self.ahead(far) in (("key", "SELECT"), ("key", "VALUES"), ("key", "WITH"))
