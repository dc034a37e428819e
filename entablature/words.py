"""The words, numbers, texts and marks of a query."""

from entablature.errors import BadText
from entablature.names import FIGURES, MOST_SIGNS, SMALL, is_name, is_reserved
from entablature.value import MOST_TEXT, is_text

CAPITALS = "ABCDEFGHIJKLMNOPQRSTUVWXYZ"
MOST_FIGURES = 18
DOUBLE_MARKS = ("<>", "<=", ">=", "||")
MARKS = "(),.*+-/=<>"


def is_letter(sign):
    """Whether a sign is a letter."""
    return sign in SMALL or sign in CAPITALS


def end_of_word(text, at):
    """The place behind the word that begins at a place."""
    while at < len(text) and (is_letter(text[at]) or text[at] in FIGURES or text[at] == "_"):
        at += 1
    return at


def word_at(text, at):
    """The word at a place, and the place behind it."""
    end = end_of_word(text, at)
    word = text[at:end]
    if len(word) > MOST_SIGNS or not (is_name(word) or is_reserved(word)):
        raise BadText(at)
    return ("word", word, at), end


def number_at(text, at):
    """The number at a place, and the place behind it."""
    end = at
    while end < len(text) and text[end] in FIGURES:
        end += 1
    if end - at > MOST_FIGURES:
        raise BadText(at)
    return ("number", int(text[at:end]), at), end


def text_at(text, at):
    """The text at a place, and the place behind it."""
    signs = []
    end = at + 1
    while end < len(text):
        sign = text[end]
        if sign == "'" and text[end + 1:end + 2] != "'":
            return ("text", "".join(signs), at), end + 1
        # A sign that must not be is told ahead of there being too many.
        if not is_text(sign):
            raise BadText(end)
        if len(signs) == MOST_TEXT:
            raise BadText(at)
        signs.append(sign)
        end += 2 if sign == "'" else 1
    raise BadText(at)


def mark_at(text, at):
    """The mark at a place, and the place behind it."""
    if text[at:at + 2] in DOUBLE_MARKS:
        return ("mark", text[at:at + 2], at), at + 2
    if text[at] in MARKS:
        return ("mark", text[at], at), at + 1
    raise BadText(at)


def thing_at(text, at):
    """The thing at a place, and the place behind it."""
    sign = text[at]
    if is_letter(sign) or sign == "_":
        return word_at(text, at)
    if sign in FIGURES:
        return number_at(text, at)
    if sign == "'":
        return text_at(text, at)
    return mark_at(text, at)


def things_of(text):
    """The things up to the first mistake, and the place of that, or -1."""
    things = []
    at = 0
    while at < len(text):
        if text[at] in " \n":
            at += 1
            continue
        try:
            thing, at = thing_at(text, at)
        except BadText as e:
            return things, e.at
        things.append(thing)
    return things, -1


def words(text):
    """The things of a text."""
    things, wrong = things_of(text)
    if wrong >= 0:
        raise BadText(wrong)
    return things
