"""Moves between numbers, those that may be gone without end, and letters that go so.

Moves are told of each number, from 0 on, where all begins. A move is (LETTER, NUMBER, MET, METWANTED): so the goals of
a side stand at a place of it.
"""

from wishkeep.parts import parts_of, shortest_way

GIVEN = 2
WANTED = 3


def moves_without(moves, side, goal):
    """For each number the moves that don't meet a side's goal."""
    return [[move for move in found if goal not in move[side]] for found in moves]


def graph_of(moves):
    """The graph of the moves of each number."""
    return [[move[1] for move in found] for found in moves]


def parts_and_moves(moves):
    """The parts, as parts_of tells them, each with the moves within it, which stand behind where they lead from."""
    told = []
    for part in parts_of(graph_of(moves)):
        inside = {number: True for number in part}
        told.append((part, [(number, move) for number in part for move in moves[number] if move[1] in inside]))
    return told


def first_unmet(within, side, many):
    """The first of a side's goals, of which there are so many, that no move within a part meets; None without any."""
    met = {goal: True for _, move in within for goal in move[side]}
    for goal in range(many):
        if goal not in met:
            return goal
    return None


def first_meeting(within, side, goal):
    """The first move within a part that meets a side's goal."""
    for number, move in within:
        if goal in move[side]:
            return (number, move)
    return None


def letters_to(moves, begin, end):
    """The letters of a shortest way from one number to another one."""
    way = shortest_way(graph_of(moves), begin, end)
    return [[move[0] for move in moves[number] if move[1] == behind][0] for number, behind in zip(way, way[1:])]


def round_through(moves, within, stops):
    """The letters that lead to the first of some moves within a part, and those of a round through all of them."""
    inner = [[] for _ in moves]
    for number, move in within:
        inner[number].append(move)
    begin = at = stops[0][0]
    letters = []
    for number, move in stops:
        letters.extend(letters_to(inner, at, number))
        letters.append(move[0])
        at = move[1]
    letters.extend(letters_to(inner, at, begin))
    return (tuple(letters_to(moves, 0, begin)), tuple(letters))


def round_meeting(moves, left, side, many):
    """Letters as round_through tells them, whose round goes moves that are left and meets all of a side's goals."""
    for _, within in parts_and_moves(left):
        if first_unmet(within, side, many) is None:
            return round_through(moves, within, [first_meeting(within, side, goal) for goal in range(many)])
    return None


def round_left(moves, left):
    """Letters as round_through tells them, whose round goes on those moves that are left."""
    for _, within in parts_and_moves(left):
        if len(within) > 0:
            return round_through(moves, within, within[:1])
    return None


def round_that_breaks(moves, given, wanted):
    """Letters whose round meets each given goal, and some wanted one never; None without any."""
    for goal in range(wanted):
        told = round_meeting(moves, moves_without(moves, WANTED, goal), GIVEN, given)
        if told is not None:
            return told
    return None


def round_that_keeps(moves, given, wanted):
    """Letters whose round meets some given goal never, or each wanted one; None without any."""
    for goal in range(given):
        told = round_left(moves, moves_without(moves, GIVEN, goal))
        if told is not None:
            return told
    return round_meeting(moves, moves, WANTED, wanted)
