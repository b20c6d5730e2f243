"""Positions: what is kept of the turns that are gone, and what another turn makes of it."""

from wishkeep.boards import all_turns, has_bit, place_of
from wishkeep.counts import Numbered
from wishkeep.errors import BadPosition
from wishkeep.tasks import SIDES, always_of, goals_of, looks_of
from wishkeep.wishes import gather_parts, inner_of, is_look


def is_truth(thing):
    """Whether a thing is True or False."""
    return isinstance(thing, bool)


def first_position(task):
    """The position ahead of the first turn."""
    return ((False,) * len(looks_of(task)), True, True)


def is_position(many, thing):
    """Whether a thing is a position of a task that has so many looks."""
    if not isinstance(thing, tuple) or len(thing) != 3 or not isinstance(thing[0], tuple):
        return False
    memory, given, wanted = thing
    return len(memory) == many and all(is_truth(truth) for truth in memory + (given, wanted))


def need_position(task, thing):
    """Refuses what is no position of a task."""
    if not is_position(len(looks_of(task)), thing):
        raise BadPosition("no position of this task")


def value_by(word, inner, own, full):
    """The values of a part by those within it; own are a sign's, or what a look kept."""
    if word in ("sign", "before"):
        return own
    if word == "not":
        return full ^ inner[0]
    if word == "and":
        return inner[0] & inner[1]
    if word == "or":
        return inner[0] | inner[1]
    if word == "was":
        return own | inner[0]
    if word == "since":
        return inner[1] | (inner[0] & own)
    return full if word == "yes" else 0


def places_so(values, k):
    """The places of the values whose bit k is so."""
    return tuple([place for place, value in enumerate(values) if has_bit(value, k)])


class Mover:
    """
    A task made ready for many moves: its unlike parts, each one behind those within it.

    The values of a part at several turns are one number, whose bit k is the value at the k-th of them: so what one
    position makes of all turns is found at once.
    """

    def __init__(self, task):
        parts = []
        for _, _, wish in task[1]:
            gather_parts(wish, parts)
        for side in SIDES:
            for goal in goals_of(task, side):
                gather_parts(goal, parts)
        self.board = task[0]
        self.steps = [(part, [parts.index(inner) for inner in inner_of(part)]) for part in parts]
        self.always = [[parts.index(wish) for wish in always_of(task, side)] for side in SIDES]
        self.goals = [[parts.index(goal) for goal in goals_of(task, side)] for side in SIDES]

    def sign_at(self, name, turns):
        """The values of a sign."""
        side, place = place_of(self.board, name)
        return sum([1 << k for k, turn in enumerate(turns) if has_bit(turn[side], place)])

    def values_at(self, memory, turns, full):
        """The values of all parts, and what the looks keep behind these turns."""
        values = []
        kept = []
        for part, within in self.steps:
            inner = [values[number] for number in within]
            own = 0
            if part[0] == "sign":
                own = self.sign_at(part[1], turns)
            elif is_look(part) and memory[len(kept)]:
                own = full
            values.append(value_by(part[0], inner, own, full))
            if is_look(part):
                kept.append(inner[0] if part[0] == "before" else values[-1])
        return (values, kept)

    def goals_met(self, position, values, full):
        """Of either side whether its always wishes hold so far, and the same along with each of its goals."""
        told = []
        for side in range(len(SIDES)):
            stands = full if position[1 + side] else 0
            for number in self.always[side]:
                stands = stands & values[number]
            told.append((stands, [stands & values[number] for number in self.goals[side]]))
        return told

    def moves_from(self, position, turns):
        """For each of the turns the position behind it, and the given and the wanted goals that are met."""
        full = (1 << len(turns)) - 1
        values, kept = self.values_at(position[0], turns, full)
        (given, goals), (wanted, other_goals) = self.goals_met(position, values, full)
        moves = []
        for k in range(len(turns)):
            behind = (tuple([has_bit(keeps, k) for keeps in kept]), has_bit(given, k), has_bit(wanted, k))
            moves.append((behind, places_so(goals, k), places_so(other_goals, k)))
        return moves


def moved(task, position, turn):
    """The position behind a turn, and the given and the wanted goals that are met."""
    need_position(task, position)
    return Mover(task).moves_from(position, [turn])[0]


def positions_along(task, turns):
    """The first position, then that behind each turn."""
    mover = Mover(task)
    positions = [first_position(task)]
    for turn in turns:
        positions.append(mover.moves_from(positions[-1], [turn])[0][0])
    return positions


def positions_and_moves(task):
    """All positions, as they come, and for each the moves of all turns, which lead to numbers of positions."""
    mover = Mover(task)
    turns = all_turns(task[0])
    positions = Numbered(first_position(task))
    moves = []
    while len(moves) < len(positions.things):
        found = mover.moves_from(positions.things[len(moves)], turns)
        moves.append([(positions.number_of(behind), met, metwanted) for behind, met, metwanted in found])
    return (positions.things, moves)


def all_positions(task):
    """All positions that some turns lead to, as they come."""
    return positions_and_moves(task)[0]
