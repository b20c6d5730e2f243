"""Whether a machine keeps a task, and whether every machine breaks it by a plan; else letters that show it."""

from wishkeep.pairs import machine_walker, pairs_and_moves, plan_walker
from wishkeep.rounds import round_that_breaks, round_that_keeps
from wishkeep.tasks import SIDES, goals_of


def breaking(task, machine):
    """Letters that come by which the machine breaks the task, STEM and ROUND; None if it keeps it."""
    moves = pairs_and_moves(machine_walker(task, machine))[1]
    given, wanted = [len(goals_of(task, side)) for side in SIDES]
    return round_that_breaks(moves, given, wanted)


def saving(task, plan):
    """Letters that are answered by which the task is kept against the plan, STEM and ROUND; None without any."""
    moves = pairs_and_moves(plan_walker(task, plan))[1]
    given, wanted = [len(goals_of(task, side)) for side in SIDES]
    return round_that_keeps(moves, given, wanted)


def keeps(task, machine):
    """Whether a machine keeps a task."""
    return breaking(task, machine) is None


def breaks(task, plan):
    """Whether every machine breaks a task by a plan."""
    return saving(task, plan) is None
