"""Pairs, their moves and papers by plain words: by moved alone, and with no thought of time."""

from wishkeep.memory import first_position, moved
from wishkeep.tasks import goals_of, looks_of


def steps_of_machine(machine, room):
    """The turns from a room of a machine, and the rooms behind them."""
    return [((came, answered), behind) for came, (answered, behind) in enumerate(machine[room])]


def steps_of_plan(plan, room):
    """The turns from a room of a plan, and the rooms behind them."""
    came, rooms = plan[room]
    return [((came, answered), behind) for answered, behind in enumerate(rooms)]


class Moves:
    """The moves of a task and the rooms of a machine or a plan, each position looked at once."""

    def __init__(self, task, steps, rooms):
        self.task = task
        self.steps = steps
        self.rooms = rooms
        self.first = (0, first_position(task))
        self.known = {}

    def moved(self, position, turn):
        if (position, turn) not in self.known:
            self.known[position, turn] = moved(self.task, position, turn)
        return self.known[position, turn]

    def of(self, pair):
        """The pairs behind a pair, by letters rising, and the goals that are met."""
        room, position = pair
        told = []
        for turn, behind in self.steps(self.rooms, room):
            after, met, other = self.moved(position, turn)
            told.append(((behind, after), met, other))
        return told

    def pairs(self):
        """The pairs come to, in their order."""
        found = {self.first: True}
        order = [self.first]
        for pair in order:
            for behind, _, _ in self.of(pair):
                if behind not in found:
                    found[behind] = True
                    order.append(behind)
        return order


def many_goals(task):
    """How many goals are given and wanted."""
    return [len(goals_of(task, side)) for side in ("given", "wanted")]


def is_number(thing):
    return type(thing) is int and thing >= 0


def is_place(thing, rooms, looks):
    """Whether a thing is a pair of one of so many rooms and a position of so many looks."""
    room, position = thing
    if not is_number(room) or room >= rooms or type(position) is not tuple or len(position) != 3:
        return False
    memory, given, wanted = position
    if type(memory) is not tuple or len(memory) != looks:
        return False
    return {type(truth) for truth in (given, wanted) + memory} == {bool}


def table_of(thing, length, rooms, looks):
    """The rows of a thing by pairs; None if they aren't rows of pairs, rising, each once."""
    if type(thing) is not tuple or any(type(row) is not tuple or len(row) != length for row in thing):
        return None
    if not all(is_place(row[:2], rooms, looks) and all(map(is_number, row[2:])) for row in thing):
        return None
    pairs = [row[:2] for row in thing]
    if len(set(pairs)) < len(pairs) or sorted(pairs) != pairs:
        return None
    return {row[:2]: row[2:] for row in thing}


def steadily(own, other, met):
    """Whether a number falls, or stays with a goal that isn't met."""
    return other[0] < own[0] or (other[0] == own[0] and other[1] == own[1] and own[1] not in met)


def plainly_shows_machine(task, machine, thing):
    """S3, word by word."""
    given, wanted = many_goals(task)
    if type(thing) is not tuple or len(thing) != wanted:
        return False
    moves = Moves(task, steps_of_machine, machine)
    for goal, rows in enumerate(thing):
        table = table_of(rows, 4, len(machine), len(looks_of(task)))
        if table is None or moves.first not in table or any(row[3] >= given for row in rows):
            return False
        for pair, own in table.items():
            for behind, met, other in moves.of(pair):
                if behind not in table:
                    return False
                if goal not in other and not steadily(own, table[behind], met):
                    return False
    return True


def plainly_shows_plan(task, plan, thing):
    """S4, word by word."""
    given, wanted = many_goals(task)
    if type(thing) is not tuple or len(thing) != 2 or type(thing[1]) is not tuple or len(thing[1]) != given:
        return False
    moves = Moves(task, steps_of_plan, plan)
    looks = len(looks_of(task))
    table = table_of(thing[0], 4, len(plan), looks)
    if table is None or moves.first not in table or any(row[3] >= wanted for row in thing[0]):
        return False
    counts = [table_of(rows, 3, len(plan), looks) for rows in thing[1]]
    if any(some is None or set(some) != set(table) for some in counts):
        return False
    for pair, own in table.items():
        for behind, met, other in moves.of(pair):
            if behind not in table or not steadily(own, table[behind], other):
                return False
            for goal, some in enumerate(counts):
                if goal not in met and some[behind][0] >= some[pair][0]:
                    return False
    return True


def steady_entries(pairs, of, goals):
    """
    The most of some pairs with (NUMBER, GOAL): along each of the moves that are asked for NUMBER falls, or both stay
    and the goal isn't met. Numbers are told one after the other, each to as many pairs as can have it.
    """
    entries = {}
    number = 0
    idle = 0
    while idle < goals:
        goal = number % goals
        some = [pair for pair in pairs if pair not in entries]
        fewer = None
        while fewer != some:
            fewer = some
            stay = set(some)
            some = [
                pair for pair in some
                if all(behind in entries or (behind in stay and goal not in met) for behind, met in of(pair))
            ]
        for pair in some:
            entries[pair] = (number, goal)
        idle = 0 if some else idle + 1
        number += 1
    return entries


def falling_entries(pairs, of):
    """The most of some pairs with a count that falls along each of the moves that are asked for."""
    entries = {}
    some = pairs
    while some:
        some = [pair for pair in pairs if pair not in entries and all(behind in entries for behind in of(pair))]
        for pair in some:
            entries[pair] = (1 + max([entries[behind][0] for behind in of(pair)], default=-1),)
    return entries


def closed(pairs, moves):
    """The most of some pairs, all moves of which lead to such pairs."""
    left = set(pairs)
    fewer = None
    while fewer != left:
        fewer = left
        left = {pair for pair in left if all(behind in fewer for behind, _, _ in moves.of(pair))}
    return left


def rows_by(entries, pairs):
    """Rising rows of pairs with their entries."""
    return tuple(pair + entries[pair] for pair in sorted(pairs))


def wide_machine_papers(task, machine, pairs):
    """A paper of a machine with rows for as many of some pairs as can have one; None without the first one."""
    given, wanted = many_goals(task)
    moves = Moves(task, steps_of_machine, machine)
    papers = []
    for goal in range(wanted):
        def of(pair, goal=goal):
            return [(behind, met) for behind, met, other in moves.of(pair) if goal not in other]
        entries = steady_entries(pairs, of, given)
        left = closed(entries, moves)
        if moves.first not in left:
            return None
        papers.append(rows_by(entries, left))
    return tuple(papers)


def wide_plan_papers(task, plan, pairs):
    """A paper of a plan with rows for as many of some pairs as can have one; None without the first one."""
    given, wanted = many_goals(task)
    moves = Moves(task, steps_of_plan, plan)
    entries = steady_entries(pairs, lambda pair: [(behind, other) for behind, _, other in moves.of(pair)], wanted)
    counts = []
    for goal in range(given):
        def of(pair, goal=goal):
            return [behind for behind, met, _ in moves.of(pair) if goal not in met]
        counts.append(falling_entries(pairs, of))
    left = closed(set(entries).intersection(*counts), moves)
    if moves.first not in left:
        return None
    return (rows_by(entries, left), tuple(rows_by(some, left) for some in counts))
