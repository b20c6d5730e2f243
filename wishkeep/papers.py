"""Papers of machines that keep a task, and of plans by which every machine breaks it."""

from wishkeep.pairs import machine_walker, pairs_and_moves, plan_walker
from wishkeep.rounds import GIVEN, WANTED, first_unmet, moves_without, parts_and_moves
from wishkeep.tasks import goals_of


def pairs_of(task, machine):
    """The pairs come to of a task and a machine."""
    return pairs_and_moves(machine_walker(task, machine))[0]


def pairs_by(task, plan):
    """The pairs come to of a task and a plan."""
    return pairs_and_moves(plan_walker(task, plan))[0]


def written_beside(pairs, entries):
    """Rising rows of the pairs, each with its entry behind it."""
    return tuple(sorted([pair + entry for pair, entry in zip(pairs, entries)]))


def unmet_along(moves, side, many):
    """
    For each number its part's number, and a goal of a side, of so many, that no move within the part meets: so along
    each move the number falls, or both stay. None if some part has no such goal.
    """
    entries = [None] * len(moves)
    for number, (part, within) in enumerate(parts_and_moves(moves)):
        goal = first_unmet(within, side, many)
        if goal is None:
            return None
        for at in part:
            entries[at] = (number, goal)
    return entries


def falling_along(moves):
    """For each number a count that falls along each move; None if one can go round."""
    entries = [None] * len(moves)
    for count, (part, within) in enumerate(parts_and_moves(moves)):
        if len(within) > 0:
            return None
        entries[part[0]] = (count,)
    return entries


def machine_papers(task, machine):
    """The paper of a machine; None if it doesn't keep the task."""
    pairs, moves = pairs_and_moves(machine_walker(task, machine))
    given = len(goals_of(task, "given"))
    papers = []
    for goal in range(len(goals_of(task, "wanted"))):
        entries = unmet_along(moves_without(moves, WANTED, goal), GIVEN, given)
        if entries is None:
            return None
        papers.append(written_beside(pairs, entries))
    return tuple(papers)


def plan_papers(task, plan):
    """The paper of a plan; None if some machine keeps the task against it."""
    pairs, moves = pairs_and_moves(plan_walker(task, plan))
    entries = unmet_along(moves, WANTED, len(goals_of(task, "wanted")))
    if entries is None:
        return None
    papers = []
    for goal in range(len(goals_of(task, "given"))):
        counts = falling_along(moves_without(moves, GIVEN, goal))
        if counts is None:
            return None
        papers.append(written_beside(pairs, counts))
    return (written_beside(pairs, entries), tuple(papers))
