"""Machines: rooms in which each letter that comes is answered."""

from wishkeep.boards import is_letter, letters_of
from wishkeep.counts import is_below
from wishkeep.errors import BadMachine
from wishkeep.runs import are_many_rooms, come_to, goes_along, loop_along, need_cycle, need_run, turns_from


def is_pair_of(board, many, thing):
    """Whether a thing is a letter that is answered and one of so many rooms."""
    if not isinstance(thing, tuple) or len(thing) != 2:
        return False
    return is_letter(board[1], thing[0]) and is_below(many, thing[1])


def is_room(board, many, thing):
    """Whether a thing is one of so many rooms of a machine."""
    if not isinstance(thing, tuple) or len(thing) != letters_of(board[0]):
        return False
    return all(is_pair_of(board, many, pair) for pair in thing)


def is_machine(board, thing):
    """Whether a thing is a machine of a board."""
    return are_many_rooms(thing) and all(is_room(board, len(thing), room) for room in thing)


def need_machine(board, thing):
    """Refuses what is no machine of a board."""
    if not is_machine(board, thing):
        raise BadMachine("no machine of this board")


def answer_in(machine, room, came):
    """The turn of a letter that comes in a room, and the next room."""
    answered, behind = machine[room][came]
    return ((came, answered), behind)


def turns_of(machine, run):
    """The turns along a run of letters that come."""
    need_run(len(machine[0]), run)
    return tuple(turns_from(answer_in, machine, 0, run)[0])


def room_behind(machine, run):
    """The room behind a run of letters that come."""
    need_run(len(machine[0]), run)
    return turns_from(answer_in, machine, 0, run)[1]


def loop_by(machine, cycle):
    """The lean loop that comes of a cycle of letters that come."""
    need_cycle(len(machine[0]), cycle)
    return loop_along(answer_in, machine, cycle)


def goes(machine, loop):
    """Whether a loop is one of the machine's."""
    return goes_along(answer_in, machine, 0, loop)


def leads_of(machine):
    """The next rooms of each room, by letters that come."""
    return [[behind for _, behind in room] for room in machine]


def rooms_of(machine):
    """All rooms that are come to, in the order of the least rows of letters that come."""
    return tuple(come_to(leads_of(machine)))
