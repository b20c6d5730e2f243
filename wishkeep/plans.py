"""Plans: rooms in which a letter comes, whatever is answered to it."""

from wishkeep.boards import MOST_TURNS, is_letter, lean, letters_of
from wishkeep.counts import are_below
from wishkeep.errors import BadPlan, TooGreat
from wishkeep.machines import goes
from wishkeep.runs import are_many_rooms, come_to, goes_along, loop_along, need_cycle, need_run, turns_from


def is_plan_room(board, many, thing):
    """Whether a thing is one of so many rooms of a plan."""
    if not isinstance(thing, tuple) or len(thing) != 2:
        return False
    answers = letters_of(board[1])
    return is_letter(board[0], thing[0]) and are_below(many, thing[1], answers, answers)


def is_plan(board, thing):
    """Whether a thing is a plan of a board."""
    return are_many_rooms(thing) and all(is_plan_room(board, len(thing), room) for room in thing)


def need_plan(board, thing):
    """Refuses what is no plan of a board."""
    if not is_plan(board, thing):
        raise BadPlan("no plan of this board")


def come_in(plan, room, answered):
    """The turn of a letter that is answered in a room, and the next room."""
    came, behind = plan[room]
    return ((came, answered), behind[answered])


def turns_against(plan, run):
    """The turns along a run of letters that are answered."""
    need_run(len(plan[0][1]), run)
    return tuple(turns_from(come_in, plan, 0, run)[0])


def loop_against(plan, cycle):
    """The lean loop that comes of a cycle of letters that are answered."""
    need_cycle(len(plan[0][1]), cycle)
    return loop_along(come_in, plan, cycle)


def goes_by(plan, loop):
    """Whether a loop is one of the plan's."""
    return goes_along(come_in, plan, 1, loop)


def plan_rooms(plan):
    """All rooms that are come to, in the order of the least rows of letters that are answered."""
    return tuple(come_to([behind for _, behind in plan]))


def first_turns(machine, plan, many):
    """So many of the turns that come where a machine answers a plan."""
    turns = []
    room = 0
    place = 0
    for _ in range(many):
        came, behind = plan[place]
        answered, room = machine[room][came]
        turns.append((came, answered))
        place = behind[answered]
    return tuple(turns)


def likely_round(turns):
    """The shortest row of turns, as long as a loop's at most, that goes on as these do; TooGreat without any."""
    for many in range(1, MOST_TURNS + 1):
        if turns[many:] == turns[:len(turns) - many]:
            return turns[:many]
    raise TooGreat("no round that is short enough")


def loop_of_both(machine, plan):
    """The lean loop that comes where the machine answers the plan."""
    # The rooms of both together may be far too many to go through. But loops that are small enough are one if they
    # begin with the same turns, three times as many as a STEM or ROUND has at most: so just one can be it, and whether
    # it comes is seen of the machine and of the plan, of each by itself.
    turns = first_turns(machine, plan, 3 * MOST_TURNS)
    loop = lean((turns[:MOST_TURNS], likely_round(turns[MOST_TURNS:])))
    if not goes(machine, loop) or not goes_by(plan, loop):
        raise TooGreat("more turns than a loop has")
    return loop
