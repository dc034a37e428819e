"""Tries that are made anew until none is stale, and invariants."""

from entablature.errors import Stale
from entablature.runs import Run, commit
from entablature.serial import asked, behind, plain_run


def one_round(database, commits, tries):
    """Does tries from the last version and commits them in their order: those that are not stale."""
    runs = []
    for place, (program, values, level) in tries:
        run = Run(database, program, values, level, database.version())
        run.finish()
        runs.append((place, run))
    told = []
    for place, run in runs:
        try:
            version = commit(run, commits)
        except Stale:
            continue
        told.append((place, version, run.told))
    return tuple(told)


def rounds(database, commits, tries):
    """Makes rounds until all tries are over."""
    left = list(enumerate(tries))
    told = []
    while left:
        done = one_round(database, commits, left)
        told.append(done)
        over = {place: True for place, _, _ in done}
        left = [pair for pair in left if pair[0] not in over]
    return tuple(told)


def holds(database, text, tables):
    """Whether an invariant holds on plain tables."""
    return asked(database, text, tables) == ()


def keeps_alone(database, program, values, text, tables):
    """Whether an invariant holds behind a run that is alone, if it holds ahead of it."""
    if not holds(database, text, tables):
        return True
    _, writes = plain_run(database, program, values, tables)
    return holds(database, text, behind(tables, writes))


def broken(database, text, first):
    """The first version from one on at which an invariant does not hold, or None."""
    for version in range(first, database.version() + 1):
        if database.query(text, version=version)[1] != []:
            return version
    return None
