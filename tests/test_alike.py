"""R4: machines that answer alike, and merged ones."""

import unittest
from itertools import product

from things import Numbers, some_machine
from wishkeep.alike import alike, merged
from wishkeep.machines import is_machine, rooms_of, turns_of

BOARD = (("a",), ("x",))
WIDE = (("a", "b", "c"), ("x", "y", "z"))


def path(marks):
    """A machine that gives these answers one after the other, then the last one for ever, by 0; by 1 it stays."""
    end = len(marks) - 1
    return tuple(((mark, min(k + 1, end)), (0, k)) for k, mark in enumerate(marks))


def ring(marks):
    """A machine that gives these answers over and over, whichever of two letters comes."""
    many = len(marks)
    return tuple(((mark, (k + 1) % many),) * 2 for k, mark in enumerate(marks))


def turned(machine, order):
    """The same machine with its rooms in another order: room k is the order[k]-th then; room 0 has to stay."""
    rooms = [None] * len(machine)
    for k, room in enumerate(machine):
        rooms[order[k]] = tuple((answered, order[behind]) for answered, behind in room)
    return tuple(rooms)


def some_order(numbers, many):
    """An order of so many rooms, room 0 first."""
    rest = list(range(1, many))
    return [0] + [rest.pop(numbers.below(len(rest))) for _ in range(many - 1)]


def copied(machine):
    """A machine with each room twice, which leads from one copy to the other one."""
    many = len(machine)
    one = tuple(tuple((answered, behind + many) for answered, behind in room) for room in machine)
    return one + machine


def plainly_least(machine, other, most):
    """The least run whose last letter two machines answer otherwise, of at most so many letters."""
    for length in range(1, most + 1):
        for run in product(range(len(machine[0])), repeat=length):
            if turns_of(machine, run)[-1] != turns_of(other, run)[-1]:
                return run
    return None


class Alike(unittest.TestCase):
    def one(self, machine, other):
        self.assertIsNone(alike(machine, other))
        self.assertIsNone(alike(other, machine))

    def two(self, machine, other, run):
        self.assertEqual(alike(machine, other), run)
        self.assertEqual(alike(other, machine), run)

    def test_alike_ones(self):
        machine = path((0, 1, 0, 1))
        self.one(machine, machine)
        self.one(machine, copied(machine))
        self.one(machine, turned(machine, (0, 3, 1, 2)))
        self.one(machine, machine + (((1, 0), (1, 0)),))
        self.one(ring((0,)), ring((0,) * 7))
        self.one(ring((0, 1)), ring((0, 1) * 9))
        self.one((((2, 0),),), (((2, 1),), ((2, 0),)))

    def test_otherwise_at_the_first_letter(self):
        self.two(ring((0,)), ring((1,)), (0,))
        self.two((((0, 0), (0, 0)),), (((0, 0), (1, 0)),), (1,))
        self.two((((0, 0),) * 4,), (((0, 0), (0, 0), (1, 0), (1, 0)),), (2,))

    def test_late(self):
        for many in (2, 3, 50, 4096):
            self.two(path((0,) * many), path((0,) * (many - 1) + (1,)), (0,) * many)
        self.two(ring((0,) * 36), ring((0,) * 35 + (1,)), (0,) * 36)
        self.two(ring((0, 1) * 18), ring((0, 1) * 17 + (0, 0)), (0,) * 36)

    def test_in_one_room_that_is_come_to_late(self):
        # By 0 one room on, by 1 back to room 0; only in the last room 1 is answered otherwise.
        def machine(many, answered):
            rooms = [((0, min(k + 1, many - 1)), (0, 0)) for k in range(many)]
            rooms[-1] = ((0, 0), (answered, 0))
            return tuple(rooms)
        for many in (1, 2, 10, 1500):
            self.two(machine(many, 0), machine(many, 1), (0,) * (many - 1) + (1,))

    def test_a_room_that_is_never_come_to(self):
        self.one((((0, 0), (0, 0)), ((0, 0), (0, 0))), (((0, 0), (0, 0)), ((1, 0), (1, 1))))

    def test_shorter_ones_first(self):
        # Otherwise after (0, 0, 0) and after (1, 1).
        machine = (((0, 1), (0, 3)), ((0, 2), (0, 4)), ((0, 4), (0, 4)), ((0, 4), (0, 4)), ((0, 4), (0, 4)))
        other = (machine[0], machine[1], ((1, 4), (0, 4)), ((0, 4), (1, 4)), machine[4])
        self.two(machine, other, (1, 1))

    def test_of_like_long_ones_the_lesser(self):
        machine = (((0, 1), (0, 1)), ((0, 2), (0, 2)), ((0, 2), (0, 2)))
        other = (((0, 1), (0, 3)), ((0, 2), (1, 2)), ((0, 2), (0, 2)), ((1, 2), (0, 2)))
        self.two(machine, other, (0, 1))
        other = (((0, 2), (0, 1)), ((1, 2), (1, 2)), ((0, 2), (0, 2)))
        self.two(machine, other, (1, 0))

    def test_rounds_that_are_not_of_one_length(self):
        self.two(ring((0,) * 6 + (1,)), ring((0,) * 6 + (1, 0)), (0,) * 14)
        self.two(ring((1,) + (0,) * 63), ring((1,) + (0,) * 64), (0,) * 65)

    def test_by_all_short_runs(self):
        numbers = Numbers(50)
        told = set()
        for _ in range(300):
            machine = some_machine(numbers, BOARD, 1 + numbers.below(3))
            # Few changes, so that many are alike for long.
            rooms = [list(room) for room in copied(machine)]
            room = rooms[numbers.below(len(rooms))]
            letter = numbers.below(2)
            room[letter] = (numbers.below(2), room[letter][1])
            other = tuple(tuple(room) for room in rooms)
            run = plainly_least(machine, other, 9)
            self.two(machine, other, run)
            told.add(None if run is None else len(run))
        self.assertTrue({None, 1, 2, 3, 4} <= told, told)

    def test_any_two(self):
        numbers = Numbers(51)
        for _ in range(200):
            machine = some_machine(numbers, (("a",), ()), 1 + numbers.below(3))
            self.one(machine, some_machine(numbers, (("a",), ()), 1 + numbers.below(3)))
            machine = some_machine(numbers, BOARD, 4)
            other = some_machine(numbers, BOARD, 4)
            self.two(machine, other, plainly_least(machine, other, 7))

    def test_the_greatest(self):
        numbers = Numbers(52)
        machine = some_machine(numbers, WIDE, 4096)
        self.one(machine, machine)
        self.one(machine, turned(machine, some_order(numbers, 4096)))


class Merged(unittest.TestCase):
    def check(self, machine, told):
        self.assertEqual(merged(machine), told)
        self.assertEqual(merged(told), told)
        self.assertIsNone(alike(machine, told))

    def test_one_room(self):
        for machine in (ring((0,)), ring((0,) * 5), copied(copied(ring((0,))))):
            self.check(machine, ring((0,)))
        self.check((((3, 1),), ((3, 1),)), (((3, 0),),))

    def test_rooms_of_other_answers_stay(self):
        for machine in (ring((0, 1)), ring((0, 0, 1)), path((0, 1, 0, 1)), path((0, 0, 0, 0, 1))):
            self.check(machine, machine)
        self.check(ring((0, 0, 1) * 5), ring((0, 0, 1)))
        self.check(path((0, 1, 1, 1)), path((0, 1)))

    def test_idle_rooms_are_left_out(self):
        machine = (((0, 2), (0, 0)), ((1, 0), (1, 2)), ((1, 0), (0, 2)), ((1, 1), (1, 3)))
        self.check(machine, (((0, 1), (0, 0)), ((1, 0), (0, 1))))

    def test_numbered_by_the_least_rows(self):
        self.check((((0, 2), (0, 1)), ((1, 1), (1, 1)), ((1, 0), (0, 0))),
                   (((0, 1), (0, 2)), ((1, 0), (0, 0)), ((1, 2), (1, 2))))
        # The room of both copies is come to by (0,) already.
        self.check((((0, 1), (0, 2)), ((1, 3), (1, 3)), ((1, 3), (1, 3)), ((0, 3), (1, 3))),
                   (((0, 1), (0, 1)), ((1, 2), (1, 2)), ((0, 2), (1, 2))))

    def test_rooms_that_answer_alike_and_lead_elsewhere(self):
        machine = (((0, 1), (0, 2)), ((0, 3), (0, 3)), ((0, 4), (0, 4)), ((0, 3), (0, 3)), ((0, 4), (1, 4)))
        self.check(machine, (((0, 1), (0, 2)), ((0, 1), (0, 1)), ((0, 3), (0, 3)), ((0, 3), (1, 3))))

    def test_the_same_whatever_order_copies_and_idle_rooms(self):
        numbers = Numbers(53)
        for board in (BOARD, WIDE, ((), ("x",)), (("a",), ())):
            for _ in range(40):
                many = 1 + numbers.below(6)
                machine = some_machine(numbers, board, many)
                told = merged(machine)
                self.check(machine, told)
                self.assertTrue(is_machine(board, told))
                self.check(turned(machine, some_order(numbers, many)), told)
                self.check(copied(machine), told)
                self.check(turned(copied(machine), some_order(numbers, 2 * many)), told)
                self.check(machine + machine[:1] * 2, told)

    def test_fewest_rooms(self):
        numbers = Numbers(54)
        sizes = set()
        for _ in range(150):
            machine = some_machine(numbers, BOARD, 1 + numbers.below(5))
            told = merged(machine)
            self.check(machine, told)
            self.assertEqual(len(told), plainly_fewest(machine))
            self.assertEqual(rooms_of(told), tuple(range(len(told))))
            sizes.add((len(machine), len(told)))
        self.assertGreater(len(sizes), 10)

    def test_one_behind_the_other(self):
        for many in (1000, 4096):
            machine = path((0,) * (many - 1) + (1,))
            self.check(machine, machine)
            self.check(turned(machine, [0] + list(range(many - 1, 0, -1))), machine)
            self.check(path((0,) * many), path((0,)))
            self.check(path((0,) * (many // 2) + (1,) * (many // 2)), path((0,) * (many // 2) + (1,)))
            self.check(ring((0,) * (many - 1) + (1,)), ring((0,) * (many - 1) + (1,)))
            self.check(ring(((0,) * 7 + (1,)) * (many // 8)), ring((0,) * 7 + (1,)))

    def test_the_greatest(self):
        numbers = Numbers(55)
        machine = some_machine(numbers, WIDE, 2048)
        self.check(turned(copied(machine), some_order(numbers, 4096)), merged(machine))
        self.assertGreater(len(merged(machine)), 2000)

    def test_the_machine_stays(self):
        machine = copied(ring((0, 1)))
        merged(machine)
        self.assertEqual(machine, copied(ring((0, 1))))


def plainly_fewest(machine):
    """How many rooms come to answer otherwise by runs of at most as many letters as there are rooms."""
    told = set()
    runs = [run for length in range(1, len(machine) + 1) for run in product(range(2), repeat=length)]
    for room in rooms_of(machine):
        order = list(range(len(machine)))
        order[0], order[room] = room, 0
        begun_there = turned(machine, order)
        told.add(tuple(turns_of(begun_there, run)[-1] for run in runs))
    return len(told)


if __name__ == "__main__":
    unittest.main()
