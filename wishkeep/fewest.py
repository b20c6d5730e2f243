"""Machines of the fewest rooms that keep a task."""

from wishkeep.arena import arena_of
from wishkeep.boards import has_bit
from wishkeep.counts import is_count
from wishkeep.errors import BadNumber, NoMachine, TooGreat
from wishkeep.games import lost_of
from wishkeep.pairs import pairs_and_moves
from wishkeep.rounds import letters_to, round_that_breaks

MOST_ROOMS_ASKED = 8
MOST_TRIES = 70000


class Trial:
    """
    A search for the least machine of so many rooms that keeps a task, by its arena and what lost tells of that, where
    fewer rooms aren't enough: so nothing leads to a room just as long as it isn't chosen yet what leads there.

    What is answered and the next room are chosen pair by pair, rising, in the order in which the pairs stand in the
    machine: so the first machine found is the least. As soon as some of the pairs are enough to lose, whatever the
    others are, it is told which ones, by a number whose bits stand for their places: other ones needn't be chosen anew.
    """

    def __init__(self, arena, table, rooms):
        self.first = (0, 0)
        self.moves, self.given, self.wanted = arena
        self.table = table
        self.rooms = rooms
        self.comes = len(self.moves[0])
        self.chosen = []

    def moves_from(self, pair):
        """The moves of a room and a place, by letters rising, as far as pairs are chosen there."""
        room, place = pair
        told = []
        begin = room * self.comes
        for (answered, behind), answers in zip(self.chosen[begin:begin + self.comes], self.moves[place]):
            after, met, metwanted = answers[answered]
            told.append(((behind, after), met, metwanted))
        return told

    def bits_along(self, letters, pairs, moves):
        """The places of the pairs that are chosen along letters."""
        bits = 0
        at = 0
        for letter in letters:
            bits = bits | (1 << (pairs[at][0] * self.comes + letter))
            at = moves[at][letter][1]
        return bits

    def enough_to_lose(self):
        """The places of some pairs that are enough to lose; None without any."""
        pairs, moves = pairs_and_moves(self)
        for number, (_, place) in enumerate(pairs):
            if self.table[place] is not None:
                return self.bits_along(letters_to(moves, 0, number), pairs, moves)
        told = round_that_breaks(moves, self.given, self.wanted)
        if told is None:
            return None
        return self.bits_along(told[0] + told[1], pairs, moves)

    def choices(self):
        """What may be chosen next, rising."""
        # Of the rooms to which nothing leads yet just the first one: by other numbers the others would do the same.
        newest = max([room for _, room in self.chosen], default=0)
        rooms = min(newest + 2, self.rooms)
        return [(answered, room) for answered in range(len(self.moves[0][0])) for room in range(rooms)]

    def fill(self):
        """Chooses all that is left; None if so the task is kept, else the places of pairs that are enough to lose."""
        at = len(self.chosen)
        if at == self.rooms * self.comes:
            return None
        bits = 0
        for choice in self.choices():
            self.chosen.append(choice)
            enough = self.enough_to_lose()
            if enough is None:
                enough = self.fill()
            if enough is None:
                return None
            self.chosen.pop()
            if not has_bit(enough, at):
                return enough
            bits = bits | enough
        return bits ^ (1 << at)

    def machine(self):
        """The machine of all that is chosen."""
        begins = range(0, len(self.chosen), self.comes)
        return tuple([tuple(self.chosen[begin:begin + self.comes]) for begin in begins])


def tries_of(comes, answers, rooms):
    """How many machines of so many rooms there are, by so many letters on either side."""
    tries = 1
    for _ in range(rooms * comes):
        tries = tries * answers * rooms
    return tries


def fewest(task, most):
    """The least of the machines of the fewest rooms, at most so many, that keep a task."""
    arena = arena_of(task)
    if not is_count(most) or not 1 <= most <= MOST_ROOMS_ASKED:
        raise BadNumber("no number of rooms from 1 to 8")
    if tries_of(len(arena[0][0]), len(arena[0][0][0]), most) > MOST_TRIES:
        raise TooGreat("more than 70000 tries")
    table = lost_of(arena)
    if table[0] is None:
        for rooms in range(1, most + 1):
            trial = Trial(arena, table, rooms)
            if trial.fill() is None:
                return trial.machine()
    raise NoMachine("no machine of so few rooms keeps it")
