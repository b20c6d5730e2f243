"""Machines that answer alike, and the smallest one of these."""

from wishkeep.machines import leads_of
from wishkeep.merging import merged_rooms


def head_of(heads, number):
    """The head of all numbers that are joined with one."""
    while heads[number] != number:
        heads[number] = heads[heads[number]]
        number = heads[number]
    return number


def join(heads, one, other):
    """Joins two numbers; whether they weren't yet."""
    one = head_of(heads, one)
    other = head_of(heads, other)
    heads[other] = one
    return one != other


def run_to(found, at):
    """The letters that lead to a pair of rooms, each pair found behind an earlier one."""
    letters = []
    while at > 0:
        _, _, at, letter = found[at]
        letters.append(letter)
    return tuple(letters[::-1])


def alike(machine, other):
    """The least run of letters that come whose last one two machines answer otherwise; None without any."""
    # Rooms that are joined already needn't be looked at: where they answer a run otherwise, so does one of the pairs
    # that joined them, and pairs are found in the order of the runs that lead to them.
    many = len(machine)
    heads = list(range(many + len(other)))
    join(heads, 0, many)
    found = [(0, 0, 0, 0)]
    at = 0
    while at < len(found):
        room, its_room, _, _ = found[at]
        for letter, (pair, its_pair) in enumerate(zip(machine[room], other[its_room])):
            if pair[0] != its_pair[0]:
                return run_to(found, at) + (letter,)
            if join(heads, pair[1], many + its_pair[1]):
                found.append((pair[1], its_pair[1], at, letter))
        at += 1
    return None


def merged(machine):
    """The machine of fewest rooms that is alike, rooms in the order of the least rows of letters."""
    marks = [tuple([answered for answered, _ in room]) for room in machine]
    kept, places = merged_rooms(marks, leads_of(machine))
    return tuple([tuple([(answered, places[behind]) for answered, behind in machine[room]]) for room in kept])
