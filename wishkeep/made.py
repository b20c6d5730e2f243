"""Machines and plans, made by tables of who has an arena."""

from wishkeep.counts import Numbered
from wishkeep.errors import NoMachine, NoPlan


def one_round(goal, many):
    """The goal behind one of so many; behind the last one the first."""
    return (goal + 1) % many


def is_lesser(own, other):
    """Whether an entry, if it is one, has a lesser number than one's own."""
    return other is not None and other[0] < own[0]


def is_beside(own, other, goals):
    """Whether an entry, if it is one, has one's own number and goal, which is none of these goals."""
    return other is not None and other[:2] == own[:2] and own[1] not in goals


def answer_for(entries, place, goal, wanted, answers):
    """The first letter to answer for a wanted goal, and the place and the wanted goal behind it."""
    own = entries[place]
    for answered, (behind, met, metwanted) in enumerate(answers):
        other = entries[behind]
        if goal in metwanted and other is not None:
            return (answered, (behind, one_round(goal, wanted)))
        if is_lesser(own, other) or is_beside(own, other, met):
            return (answered, (behind, goal))
    return None


def machine_of(arena, table):
    """The machine that goes by what held tells."""
    moves, _, wanted = arena
    if table[0][0] is None:
        raise NoMachine("place 0 isn't ours")
    pairs = Numbered((0, 0))
    rooms = []
    while len(rooms) < len(pairs.things):
        place, goal = pairs.things[len(rooms)]
        found = [answer_for(table[goal], place, goal, wanted, answers) for answers in moves[place]]
        rooms.append(tuple([(answered, pairs.number_of(pair)) for answered, pair in found]))
    return tuple(rooms)


def comes_nearer(own, other, goal, move):
    """Whether a move between these entries comes nearer to a given goal, or to a lesser number."""
    _, met, metwanted = move
    if is_lesser(own, other):
        return True
    return is_beside(own, other, metwanted) and (goal in met or other[2][goal] < own[2][goal])


def letter_for(entries, place, goal, letters):
    """The first letter to come for a given goal."""
    for came, answers in enumerate(letters):
        if all(comes_nearer(entries[place], entries[move[0]], goal, move) for move in answers):
            return came
    return None


def plan_of(arena, table):
    """The plan that goes by what lost tells."""
    moves, given, _ = arena
    if table[0] is None:
        raise NoPlan("place 0 is ours")
    pairs = Numbered((0, 0))
    rooms = []
    while len(rooms) < len(pairs.things):
        place, goal = pairs.things[len(rooms)]
        came = letter_for(table, place, goal, moves[place])
        behind = []
        for other, met, _ in moves[place][came]:
            pair = (other, one_round(goal, given) if goal in met else goal)
            behind.append(pairs.number_of(pair))
        rooms.append((came, tuple(behind)))
    return tuple(rooms)
