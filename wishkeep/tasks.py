"""Tasks: what is given, and what is wanted."""

from wishkeep.boards import is_board
from wishkeep.errors import BadBoard, BadRow, BadTask, TooGreat
from wishkeep.names import all_unlike, name_by, need_pairs
from wishkeep.wishes import gather_parts, is_look, is_wish_of, signs_of, told_otherwise

SIDES = ("given", "wanted")
HOWS = ("always", "again")
MOST_ROWS = 8
MOST_LOOKS = 6


def is_word_of(words, thing):
    """Whether a thing is one of some words."""
    return isinstance(thing, str) and thing in words


def is_row(board, thing):
    """Whether a thing is a row of a board."""
    if not isinstance(thing, tuple) or len(thing) != 3:
        return False
    return is_word_of(SIDES, thing[0]) and is_word_of(HOWS, thing[1]) and is_wish_of(board, thing[2])


def need_row(board, thing):
    """Refuses what is no row of a board."""
    if not is_row(board, thing):
        raise BadRow("no row of this board")


def is_task(thing):
    """Whether a thing is a task, however many looks it has."""
    if not isinstance(thing, tuple) or len(thing) != 2 or not is_board(thing[0]):
        return False
    board, rows = thing
    return isinstance(rows, tuple) and len(rows) <= MOST_ROWS and all(is_row(board, row) for row in rows)


def need_task(thing):
    """Refuses what is no task, and one of too many looks."""
    if not is_task(thing):
        raise BadTask("no task")
    if len(looks_of(thing)) > MOST_LOOKS:
        raise TooGreat("more than six looks")


def looks_of(task):
    """The unlike parts of a task that look back, as they first come to their ends."""
    found = []
    for _, _, wish in task[1]:
        gather_parts(wish, found)
    return tuple([part for part in found if is_look(part)])


def wishes_of(task, side, how):
    """The wishes of the rows of one side and one how, in order."""
    return tuple([row[2] for row in task[1] if row[0] == side and row[1] == how])


def always_of(task, side):
    """The wishes of a side's always rows, in order."""
    return wishes_of(task, side, "always")


def goals_of(task, side):
    """The wishes of a side's again rows, in order; without any, one that always holds."""
    goals = wishes_of(task, side, "again")
    if len(goals) == 0:
        return (("yes",),)
    return goals


def names_of(task):
    """The names in a task's rows, rising."""
    return tuple(sorted({name for row in task[1] for name in signs_of(row[2])}))


def renamed_task(task, pairs):
    """A task, its board's names too, its names told otherwise by pairs."""
    need_pairs(pairs)
    (comes, answers), rows = task
    comes = tuple([name_by(pairs, name) for name in comes])
    answers = tuple([name_by(pairs, name) for name in answers])
    if not all_unlike(comes + answers):
        raise BadBoard("two names would be one")
    return ((comes, answers), tuple([(side, how, told_otherwise(wish, pairs)) for side, how, wish in rows]))
