"""Pairs of a room and a position, and the moves that lead from one to another, of machines and of plans alike."""

from wishkeep.boards import all_turns
from wishkeep.counts import Numbered
from wishkeep.errors import TooGreat
from wishkeep.machines import answer_in, need_machine
from wishkeep.memory import Mover, first_position
from wishkeep.plans import come_in, need_plan
from wishkeep.tasks import need_task

MOST_PAIRS = 1200


class Walker:
    """
    A task and rooms made ready for many moves.

    Ways tell of each room, by letters rising, the turn and the next room.
    """

    def __init__(self, task, ways):
        self.first = (0, first_position(task))
        self.ways = ways
        self.mover = Mover(task)
        self.board_turns = all_turns(task[0])
        self.found = {}

    def moves_at(self, position):
        """What each turn makes of a position."""
        # There are few positions, but many rooms may stand beside each of them.
        if position not in self.found:
            moves = self.mover.moves_from(position, self.board_turns)
            self.found[position] = {turn: move for turn, move in zip(self.board_turns, moves)}
        return self.found[position]

    def moves_from(self, pair):
        """The moves of a pair, by letters rising: the pair behind, the given and the wanted goals that are met."""
        room, position = pair
        moves = self.moves_at(position)
        told = []
        for turn, behind in self.ways[room]:
            after, met, metwanted = moves[turn]
            told.append(((behind, after), met, metwanted))
        return told


def ways_of(step, rooms, letters):
    """Of each room, for so many letters, what a step tells."""
    return [[step(rooms, room, letter) for letter in range(letters)] for room in range(len(rooms))]


def machine_walker(task, machine):
    """The walker of a task and a machine, both of them looked at."""
    need_task(task)
    need_machine(task[0], machine)
    return Walker(task, ways_of(answer_in, machine, len(machine[0])))


def plan_walker(task, plan):
    """The walker of a task and a plan, both of them looked at."""
    need_task(task)
    need_plan(task[0], plan)
    return Walker(task, ways_of(come_in, plan, len(plan[0][1])))


def pairs_and_moves(walker):
    """
    All pairs come to, as they come; and for each its moves, by letters rising: the letter, the number of the pair
    behind, the given and the wanted goals that are met. A walker has a first pair, and tells the moves from each.
    """
    pairs = Numbered(walker.first)
    moves = []
    while len(moves) < len(pairs.things):
        found = []
        for letter, (pair, met, metwanted) in enumerate(walker.moves_from(pairs.things[len(moves)])):
            found.append((letter, pairs.number_of(pair), met, metwanted))
        moves.append(found)
        if len(pairs.things) > MOST_PAIRS:
            raise TooGreat("more than 1200 pairs")
    return (pairs.things, moves)
