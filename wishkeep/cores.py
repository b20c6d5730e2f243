"""Wanted rows that can't be kept together."""

from itertools import combinations

from wishkeep.arena import arena_of
from wishkeep.changes import without
from wishkeep.errors import TooGreat
from wishkeep.games import lost_of

MOST_WANTED = 5


def arenas_by(task, wanted):
    """The arenas of a task with some of its wanted rows alone, the fewest ones first, then by their places."""
    arenas = {}
    for many in range(1, len(wanted) + 1):
        for some in combinations(wanted, many):
            others = tuple([place for place in wanted if place not in some])
            arenas[some] = arena_of(without(task, others))
    return arenas


def core(task):
    """The fewest wanted rows that no machine keeps together, by their numbers among all rows; None if one keeps all."""
    arena = arena_of(task)
    wanted = [place for place, row in enumerate(task[1]) if row[0] == "wanted"]
    if len(wanted) > MOST_WANTED:
        raise TooGreat("more than five wanted rows")
    # All of them are made first: a task of fewer rows may have more places, and is refused then, whoever has it.
    arenas = arenas_by(task, wanted)
    if lost_of(arena)[0] is None:
        return None
    for some, its_arena in arenas.items():
        if lost_of(its_arena)[0] is not None:
            return some
    return None
