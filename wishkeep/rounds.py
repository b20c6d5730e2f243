"""Moves between numbered pairs: those that are left without a goal, and those that may be gone without end.

A move is (LETTER, NUMBER, MET, METWANTED): so a side's goals stand at a place of it.
"""

GIVEN = 2
WANTED = 3


def moves_without(moves, side, goal):
    """For each number the moves that don't meet a side's goal."""
    return [[move for move in found if goal not in move[side]] for found in moves]


def graph_of(moves):
    """The graph of the moves of each number."""
    return [[move[1] for move in found] for found in moves]


def moves_within(moves, part):
    """The moves within a part, each behind the number from which it leads."""
    inside = {number: True for number in part}
    return [(number, move) for number in part for move in moves[number] if move[1] in inside]


def first_unmet(within, side, many):
    """The first of a side's goals, of which there are so many, that no move within a part meets; None without any."""
    met = {goal: True for _, move in within for goal in move[side]}
    for goal in range(many):
        if goal not in met:
            return goal
    return None
