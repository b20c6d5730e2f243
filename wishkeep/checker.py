"""Whether things are papers, seen by single moves."""

from wishkeep.counts import is_below, is_count
from wishkeep.memory import is_position
from wishkeep.pairs import machine_walker, plan_walker
from wishkeep.tasks import goals_of, looks_of


def are_many(many, thing):
    """Whether a thing is a tuple of so many things."""
    return isinstance(thing, tuple) and len(thing) == many


def are_rising_pairs(rooms, looks, thing):
    """Whether a thing is a tuple of tuples that begin with pairs, rising, each pair once."""
    ahead = None
    for row in thing:
        if not is_below(rooms, row[0]) or not is_position(looks, row[1]):
            return False
        if ahead is not None and ahead >= row[:2]:
            return False
        ahead = row[:2]
    return True


def are_rows(rooms, looks, goals, thing):
    """Whether a thing is rows of pairs, with a number and one of so many goals behind each."""
    if not isinstance(thing, tuple) or not all(are_many(4, row) for row in thing):
        return False
    if not all(is_count(row[2]) and is_below(goals, row[3]) for row in thing):
        return False
    return are_rising_pairs(rooms, looks, thing)


def are_counts(rooms, looks, thing):
    """Whether a thing is rows of pairs, with a count behind each."""
    if not isinstance(thing, tuple) or not all(are_many(3, row) and is_count(row[2]) for row in thing):
        return False
    return are_rising_pairs(rooms, looks, thing)


def entries_of(rows):
    """What the rows tell of each pair."""
    return {row[:2]: row[2:] for row in rows}


def falls_or_stays(own, other, met):
    """Whether the number falls along a move that meets some goals, or stays beside a goal that isn't met."""
    return other[0] < own[0] or (other == own and own[1] not in met)


def holds_along(walker, entries, goal):
    """Whether of a machine's rows for a wanted goal each move is as it must be."""
    for pair, own in entries.items():
        for behind, met, metwanted in walker.moves_from(pair):
            if behind not in entries:
                return False
            if goal not in metwanted and not falls_or_stays(own, entries[behind], met):
                return False
    return walker.first in entries


def breaks_along(walker, entries):
    """Whether of a plan's rows each move is as it must be."""
    for pair, own in entries.items():
        for behind, _, metwanted in walker.moves_from(pair):
            if behind not in entries or not falls_or_stays(own, entries[behind], metwanted):
                return False
    return walker.first in entries


def falls_along(walker, entries, goal):
    """Whether of a plan's counts for a given goal each move is as it must be; all pairs that are led to have one."""
    for pair, own in entries.items():
        for behind, met, _ in walker.moves_from(pair):
            if goal not in met and entries[behind] >= own:
                return False
    return True


def shows_machine(task, machine, thing):
    """Whether a thing is a paper of a machine."""
    walker = machine_walker(task, machine)
    given = len(goals_of(task, "given"))
    wanted = len(goals_of(task, "wanted"))
    looks = len(looks_of(task))
    if not are_many(wanted, thing) or not all(are_rows(len(machine), looks, given, rows) for rows in thing):
        return False
    return all(holds_along(walker, entries_of(rows), goal) for goal, rows in enumerate(thing))


def shows_plan(task, plan, thing):
    """Whether a thing is a paper of a plan."""
    walker = plan_walker(task, plan)
    given = len(goals_of(task, "given"))
    wanted = len(goals_of(task, "wanted"))
    looks = len(looks_of(task))
    if not are_many(2, thing) or not are_many(given, thing[1]):
        return False
    rows, counts = thing
    if not are_rows(len(plan), looks, wanted, rows) or not all(are_counts(len(plan), looks, some) for some in counts):
        return False
    pairs = [row[:2] for row in rows]
    if not all([row[:2] for row in some] == pairs for some in counts) or not breaks_along(walker, entries_of(rows)):
        return False
    return all(falls_along(walker, entries_of(some), goal) for goal, some in enumerate(counts))
