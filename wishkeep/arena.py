"""Arenas: places, and moves that meet goals."""

from wishkeep.boards import letters_of
from wishkeep.counts import are_rising, is_below, is_count
from wishkeep.errors import BadArena, TooGreat
from wishkeep.memory import positions_and_moves
from wishkeep.tasks import SIDES, goals_of, need_task

MOST_GOALS = 8
MOST_LETTERS = 8
MOST_PLACES = 120
# Of the places, each as often as there are goals on the side that has more.
MOST_IN_ALL = 200


def are_goals(thing):
    """Whether a thing is as many goals as a side may have."""
    return is_count(thing) and 1 <= thing <= MOST_GOALS


def are_letters(thing):
    """Whether a thing is a tuple with something for each letter, of which there may be so many."""
    return isinstance(thing, tuple) and 1 <= len(thing) <= MOST_LETTERS


def are_few_enough(many, given, wanted):
    """Whether an arena may have so many places, with so many goals."""
    return many <= MOST_PLACES and many * max(given, wanted) <= MOST_IN_ALL


def is_move(many, given, wanted, thing):
    """Whether a thing is a move to one of so many places."""
    if not isinstance(thing, tuple) or len(thing) != 3:
        return False
    return is_below(many, thing[0]) and are_rising(given, thing[1]) and are_rising(wanted, thing[2])


def is_place(many, given, wanted, thing):
    """Whether a thing is one of so many places."""
    if not are_letters(thing) or not all(are_letters(answers) for answers in thing):
        return False
    return all(is_move(many, given, wanted, move) for answers in thing for move in answers)


def is_arena(thing):
    """Whether a thing is an arena."""
    if not isinstance(thing, tuple) or len(thing) != 3:
        return False
    moves, given, wanted = thing
    if not are_goals(given) or not are_goals(wanted) or not isinstance(moves, tuple) or len(moves) == 0:
        return False
    if not are_few_enough(len(moves), given, wanted):
        return False
    return all(is_place(len(moves), given, wanted, place) for place in moves)


def need_arena(thing):
    """Refuses what is no arena."""
    if not is_arena(thing):
        raise BadArena("no arena")


def by_letters(moves, answers):
    """The moves of a place by letters that come, for each of these as many as there are answers."""
    return tuple([tuple(moves[at:at + answers]) for at in range(0, len(moves), answers)])


def arena_of(task):
    """The arena of a task: its positions are the places."""
    need_task(task)
    given, wanted = [len(goals_of(task, side)) for side in SIDES]
    moves = positions_and_moves(task)[1]
    if not are_few_enough(len(moves), given, wanted):
        raise TooGreat("more places than an arena has")
    answers = letters_of(task[0][1])
    return (tuple([by_letters(found, answers) for found in moves]), given, wanted)
