"""The entries of a log, and recovery."""

from entablature.errors import BadForm, PeristyleError
from entablature.octets import are_octets, read, written

# The octets ahead of a payload, those behind it, and the modulus of the check number.
HEAD = 5
TAIL = 2
MODULUS = 65521


def check_number(octets):
    """The check number of the kind of an entry and the octets of its payload behind it."""
    return sum([(at + 1) * octet for at, octet in enumerate(octets)]) % MODULUS


def big_octets(n, many):
    """A number in so many octets, the greatest first."""
    return [n >> 8 * at & 255 for at in range(many - 1, -1, -1)]


def number_of(octets):
    """The number in some octets, the greatest first."""
    n = 0
    for octet in octets:
        n = n * 256 + octet
    return n


def entry(kind, payload):
    """The octets of an entry of a kind with a plain value for its payload."""
    octets = written(payload)
    check = check_number([kind] + octets)
    return big_octets(len(octets), HEAD - 1) + [kind] + octets + big_octets(check, TAIL)


def end_of(octets, at):
    """The place behind the entry that begins at a place; None if it is not whole."""
    if not 0 <= at <= len(octets) - HEAD - TAIL or not are_octets(octets[at:at + HEAD]):
        return None
    end = at + HEAD + number_of(octets[at:at + HEAD - 1]) + TAIL
    return end if end <= len(octets) else None


def entry_at(octets, at):
    """The kind and the payload of the entry at a place, and the place behind it; None if there is none."""
    end = end_of(octets, at)
    if end is None or not are_octets(octets[at:end]):
        return None
    told = list(octets[at + HEAD - 1:end - TAIL])
    if check_number(told) != number_of(octets[end - TAIL:end]):
        return None
    try:
        return told[0], read(told[1:]), end
    except BadForm:
        return None


def recovered(desk, octets):
    """Makes a new desk what a log tells, and tells how many octets of it were used."""
    if type(octets) not in (list, tuple) or not are_octets(octets):
        raise BadForm()
    at = 0
    while True:
        told = entry_at(octets, at)
        if told is None:
            return at
        try:
            desk.redo(told[0], told[1])
        except PeristyleError:
            return at
        at = told[2]
