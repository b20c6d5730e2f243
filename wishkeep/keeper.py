"""Who has a task: a machine that keeps it, or a plan by which every machine breaks it."""

from wishkeep.alike import merged
from wishkeep.arena import arena_of
from wishkeep.errors import NoMachine, NoPlan
from wishkeep.games import held_beside, lost_of
from wishkeep.made import machine_of, plan_of
from wishkeep.merging import merged_rooms


def told(task):
    """Whether a machine or a plan has a task, by its word, and which one."""
    arena = arena_of(task)
    table = lost_of(arena)
    if table[0] is None:
        return ("machine", machine_of(arena, held_beside(arena, table)))
    return ("plan", plan_of(arena, table))


def has_it(task):
    """Whether some machine keeps a task."""
    return lost_of(arena_of(task))[0] is None


def machine_for(task):
    """A machine that keeps a task, of all that answer alike the one of fewest rooms."""
    word, machine = told(task)
    if word == "plan":
        raise NoMachine("every machine breaks it by some plan")
    return merged(machine)


def merged_plan(plan):
    """The plan of fewest rooms by which the same comes, rooms in the order of the least rows of letters."""
    kept, places = merged_rooms([came for came, _ in plan], [behind for _, behind in plan])
    return tuple([(plan[room][0], tuple([places[behind] for behind in plan[room][1]])) for room in kept])


def plan_for(task):
    """A plan by which every machine breaks a task, of all by which the same comes the one of fewest rooms."""
    word, plan = told(task)
    if word == "machine":
        raise NoPlan("some machine keeps it")
    return merged_plan(plan)
