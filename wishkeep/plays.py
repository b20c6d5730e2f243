"""Plays: what is told of a task, turn by turn."""

from wishkeep.boards import need_letter
from wishkeep.keeper import told
from wishkeep.machines import answer_in
from wishkeep.memory import Mover, first_position
from wishkeep.plans import come_in
from wishkeep.tasks import SIDES, goals_of

LEAST_TASK = (((), ()), ())


def counted(counts, goals):
    """Counts of goals, those of some goals once more."""
    return tuple([count + 1 if goal in goals else count for goal, count in enumerate(counts)])


class Play:
    """A play of the machine or the plan that is told of a task."""

    def __init__(self, task):
        self.word, self.rooms = told(task)
        self.names = task[0][0] if self.word == "machine" else task[0][1]
        self.mover = Mover(task)
        counts = tuple([(0,) * len(goals_of(task, side)) for side in SIDES])
        # What stands behind each turn, ahead of all what stands at first: so a turn is taken back by taking off one.
        self.stands = [(None, 0, first_position(task), counts)]

    def side(self):
        """Which one is told of the task: "machine" or "plan"."""
        return self.word

    def letter_next(self):
        """The letter that comes next by the plan; None of a machine."""
        if self.word == "machine":
            return None
        return self.rooms[self.room_now()][0]

    def turn(self, letter):
        """Goes a turn by a letter; what the machine answers to it, or what came by the plan."""
        need_letter(self.names, letter)
        _, room, position, counts = self.stands[-1]
        step = answer_in if self.word == "machine" else come_in
        turn, room = step(self.rooms, room, letter)
        position, met, metwanted = self.mover.moves_from(position, [turn])[0]
        self.stands.append((turn, room, position, (counted(counts[0], met), counted(counts[1], metwanted))))
        return turn[1] if self.word == "machine" else turn[0]

    def turns(self):
        """All turns that were gone."""
        return tuple([turn for turn, _, _, _ in self.stands[1:]])

    def position_now(self):
        """The position behind all turns."""
        return self.stands[-1][2]

    def room_now(self):
        """The room behind all turns."""
        return self.stands[-1][1]

    def met(self):
        """How often each given goal was met so far, and each wanted one."""
        return self.stands[-1][3]

    def back(self):
        """Takes the last turn back; whether there was one."""
        if len(self.stands) == 1:
            return False
        self.stands.pop()
        return True

    def copied(self):
        """A play that stands where this one does."""
        # Who has the task is known: of the least one it is found at once, of this one anew it might take long.
        other = Play(LEAST_TASK)
        other.word = self.word
        other.rooms = self.rooms
        other.names = self.names
        other.mover = self.mover
        other.stands = list(self.stands)
        return other
