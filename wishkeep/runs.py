"""Runs and cycles of letters, and where they lead through rooms, of machines and of plans alike.

A step is a function of rooms, a room's number and a letter: it tells the turn there and the next room.
"""

from wishkeep.boards import MOST_TURNS, lean
from wishkeep.counts import Numbered, are_below
from wishkeep.errors import BadRun, TooGreat

MOST_RUN = 10000
MOST_ROOMS = 4096


def are_many_rooms(thing):
    """Whether a thing is a tuple of as many rooms as a machine or a plan has, whatever these are."""
    return isinstance(thing, tuple) and 1 <= len(thing) <= MOST_ROOMS


def need_run(many, thing):
    """Refuses what is no run of letters, of which there are so many."""
    if not are_below(many, thing, 0, MOST_RUN):
        raise BadRun("no run of letters")


def need_cycle(many, thing):
    """Refuses what is no cycle of letters, of which there are so many."""
    if not isinstance(thing, tuple) or len(thing) != 2:
        raise BadRun("no cycle")
    if not are_below(many, thing[0], 0, MOST_TURNS) or not are_below(many, thing[1], 1, MOST_TURNS):
        raise BadRun("no cycle of letters")


def turns_from(step, rooms, room, letters):
    """The turns along letters from a room on, and the room behind them."""
    turns = []
    for letter in letters:
        turn, room = step(rooms, room, letter)
        turns.append(turn)
    return (turns, room)


def need_fitting(loop):
    """Refuses a loop that has too many turns."""
    if len(loop[0]) > MOST_TURNS or len(loop[1]) > MOST_TURNS:
        raise TooGreat("more turns than a loop has")


def loop_along(step, rooms, cycle):
    """The lean loop that comes of a cycle of letters."""
    stem, again = cycle
    turns, room = turns_from(step, rooms, 0, stem)
    begins = {}
    while room not in begins:
        begins[room] = len(turns)
        more, room = turns_from(step, rooms, room, again)
        turns.extend(more)
    begin = begins[room]
    loop = lean((tuple(turns[:begin]), tuple(turns[begin:])))
    need_fitting(loop)
    return loop


def goes_along(step, rooms, side, loop):
    """Whether a loop comes of its own letters of one side, 0 or 1."""
    stem, again = loop
    turns, room = turns_from(step, rooms, 0, [turn[side] for turn in stem])
    if turns != list(stem):
        return False
    letters = [turn[side] for turn in again]
    begins = {}
    while room not in begins:
        begins[room] = True
        turns, room = turns_from(step, rooms, room, letters)
        if turns != list(again):
            return False
    return True


def come_to(leads):
    """All rooms come to from room 0, in the order of the least rows of letters; leads are each one's next rooms."""
    found = Numbered(0)
    at = 0
    while at < len(found.things):
        behind = leads[found.things[at]]
        for room in behind:
            found.number_of(room)
        at += 1
    return found.things
