"""N1: of all machines that keep a task the least one of the fewest rooms."""

import unittest
from itertools import product

from test_keeper import SMALL, plainly_keeps, task_by
from things import A, Numbers, chain, odd, some_task, wrong_tasks
from wishkeep.alike import merged
from wishkeep.boards import letters_of
from wishkeep.errors import BadNumber, BadTask, NoMachine, TooGreat
from wishkeep.fewest import fewest
from wishkeep.keeper import has_it, machine_for, told
from wishkeep.keeping import keeps
from wishkeep.machines import is_machine
from wishkeep.reading import task_of

LATE = (((0, 0), (0, 1)), ((1, 0), (1, 1)))
# For how many names on either side so many rooms, and no more, may be asked.
MOST = {
    (0, 0): 6, (1, 0): 4, (2, 0): 2, (3, 0): 2, (0, 1): 4, (1, 1): 3, (2, 1): 2, (3, 1): 1, (0, 2): 4, (1, 2): 2,
    (2, 2): 1, (3, 2): 1, (0, 3): 3, (1, 3): 2, (2, 3): 1, (3, 3): 0,
}


def same(one, other):
    """Rows of a task that want one wish just where another one is."""
    return (f"wanted always not ({one}) or ({other})", f"wanted always ({one}) or not ({other})")


def are_in_order(machine):
    """Whether all rooms are come to, in the order of their numbers."""
    newest = 0
    for number, room in enumerate(machine):
        for _, behind in room:
            if number > newest or behind > newest + 1:
                return False
            newest = max(newest, behind)
    return newest == len(machine) - 1


def all_machines(board, many):
    """All machines of so many rooms that are come to in order."""
    comes, answers = [letters_of(names) for names in board]
    pairs = list(product(range(answers), range(many)))
    rooms = list(product(pairs, repeat=comes))
    return [machine for machine in product(rooms, repeat=many) if are_in_order(machine)]


def plain_fewest(task, most, machines):
    """The same by trying all."""
    for many in range(1, most + 1):
        found = [merged(machine) for machine in machines[many] if keeps(task, machine)]
        if found:
            return min(found)
    return None


class Rooms(unittest.TestCase):
    def check(self, task, most, many):
        """Checks how many rooms are enough, None if more than the most ones are needed."""
        if many is None:
            self.assertRaises(NoMachine, fewest, task, most)
            return None
        machine = fewest(task, most)
        self.assertTrue(is_machine(task[0], machine))
        self.assertEqual(len(machine), many)
        self.assertEqual(merged(machine), machine)
        self.assertTrue(plainly_keeps(task, machine))
        self.assertEqual(fewest(task, most), machine)
        for other in range(1, most):
            if other >= many:
                self.assertEqual(fewest(task, other), machine)
            else:
                self.assertRaises(NoMachine, fewest, task, other)
        self.assertLessEqual(many, len(machine_for(task)))
        return machine

    def test_one_room(self):
        self.assertEqual(self.check((SMALL, ()), 3, 1), (((0, 0), (0, 0)),))
        self.assertEqual(self.check(task_by("wanted always a or x"), 3, 1), (((1, 0), (0, 0)),))
        self.assertEqual(self.check(task_by(*same("a", "x")), 3, 1), (((0, 0), (1, 0)),))
        self.assertEqual(self.check(task_of("comes\nanswers x y\nwanted always x or y"), 3, 1), (((1, 0),),))
        self.assertEqual(self.check(((("a", "b", "c"), ("x", "y")), ()), 1, 1), (((0, 0),) * 8,))
        self.assertEqual(self.check((((), ()), ()), 6, 1), (((0, 0),),))

    def test_several_rooms(self):
        self.assertEqual(self.check(task_by(*same("x", "before a")), 3, 2), LATE)
        self.assertEqual(self.check(task_by(*same("x", "before x")), 3, 1), (((0, 0), (0, 0)),))
        self.check(task_by(*same("x", "not before x")), 3, 2)
        self.check(task_by(*same("x", "before before not x")), 2, None)
        self.check(task_of("comes\nanswers x\n" + "\n".join(same("x", "before before not x"))), 4, 4)
        self.check(task_by(*same("x", "before before a")), 3, None)
        self.check(task_by(*same("x", "was a and before was a")), 3, 2)
        self.check(task_by("wanted again x and before x and before before not x"), 3, 3)
        self.check(task_of("comes\nanswers x\nwanted again x and before x and before before not x"), 4, 3)
        rows = "wanted again x and before not x and before before not x"
        self.check(task_of(f"comes\nanswers x\n{rows} and before before before not x"), 4, 4)

    def test_fewer_rooms_than_the_told_one_has(self):
        task = task_by("given again a", "wanted again x and before a", "wanted again not x", "wanted again x")
        self.assertGreater(len(machine_for(task)), 2)
        self.check(task, 3, 2)

    def test_the_least_of_several(self):
        # Both rooms are needed; where a doesn't come all may be answered and come next.
        self.assertEqual(self.check(task_by("wanted again x", "wanted again not x"), 3, 2), (
            ((0, 1), (0, 1)), ((1, 0), (1, 0))
        ))
        self.assertEqual(
            self.check(task_by("given again a", "wanted again a and x", "wanted again a and not x"), 3, 2),
            (((0, 0), (0, 1)), ((0, 1), (1, 0))),
        )
        self.assertEqual(self.check(task_by("given again a", "wanted again x"), 3, 1), (((0, 0), (1, 0)),))

    def test_none_keeps_it(self):
        for rows in (("wanted always a",), ("wanted always before x",), ("wanted again x", "wanted always not x")):
            self.check(task_by(*rows), 3, None)
            self.assertFalse(has_it(task_by(*rows)))

    def test_by_trying_all(self):
        numbers = Numbers(150)
        seen = {}
        for board, most, many in (
            (SMALL, 2, 170), (((), ("x",)), 4, 60), ((("a",), ()), 2, 20), (((), ("x", "y")), 2, 40),
            (((), ()), 4, 5), ((("a", "b"), ("x",)), 1, 30), ((("a",), ("x", "y")), 1, 30),
        ):
            machines = {rooms: all_machines(board, rooms) for rooms in range(1, most + 1)}
            for _ in range(many):
                task = some_task(numbers, board, 1 + numbers.below(6), 3)
                try:
                    word = told(task)[0]
                except TooGreat:
                    self.assertRaises(TooGreat, fewest, task, most)
                    continue
                plain = plain_fewest(task, most, machines)
                if plain is None:
                    self.assertRaises(NoMachine, fewest, task, most)
                else:
                    self.assertEqual(fewest(task, most), plain)
                rooms = 0 if plain is None else len(plain)
                seen[word, rooms] = seen.get((word, rooms), 0) + 1
        self.assertGreater(seen["machine", 1], 100, seen)
        self.assertIn(("machine", 2), seen)
        self.assertGreater(seen["plan", 0], 50, seen)

    def test_by_trying_all_where_one_room_is_not_enough(self):
        numbers = Numbers(151)
        words = ["x", "not x", "a and x", "a and not x", "x and not a", "x and before x", "x and before not x"]
        words += ["x and before a", "not x and before a", "not x and before not a", "x and before not a"]
        machines = {rooms: all_machines(SMALL, rooms) for rooms in (1, 2)}
        seen = {}
        for _ in range(150):
            rows = ["given again a"] * numbers.below(2) + ["given again not a"] * numbers.below(2)
            rows += [f"wanted again {numbers.one_of(words)}" for _ in range(2 + numbers.below(3))]
            task = task_by(*rows)
            plain = plain_fewest(task, 2, machines)
            rooms = 0 if plain is None else len(plain)
            if plain is None:
                self.assertRaises(NoMachine, fewest, task, 2)
            else:
                self.assertEqual(fewest(task, 2), plain)
            key = (has_it(task), rooms)
            seen[key] = seen.get(key, 0) + 1
        self.assertGreater(min(seen[True, rooms] for rooms in (0, 1, 2)), 9, seen)

    def test_three_rooms_by_trying_all(self):
        machines = {rooms: all_machines(SMALL, rooms) for rooms in (1, 2, 3)}
        for rows in (
            ("wanted again x and before x and before before not x", "given always not a"),
            ("wanted always not x or before a", "wanted again x and before x", "given again a and before a"),
        ):
            task = task_by(*rows)
            self.assertEqual(fewest(task, 3), plain_fewest(task, 3, machines))


class Limits(unittest.TestCase):
    def test_just_so_many_rooms(self):
        for (comes, answers), most in MOST.items():
            task = ((("a", "b", "c")[:comes], ("x", "y", "z")[:answers]), ())
            never = (task[0], (("wanted", "always", ("no",)),))
            for rooms in range(1, 9):
                wants = (2 ** answers * rooms) ** (rooms * 2 ** comes)
                self.assertEqual(wants <= 70000, rooms <= most)
                if rooms <= most:
                    self.assertEqual(len(fewest(task, rooms)), 1)
                    self.assertRaises(NoMachine, fewest, never, rooms)
                else:
                    # Also where one room is enough, and where none is.
                    self.assertRaises(TooGreat, fewest, task, rooms)
                    self.assertRaises(TooGreat, fewest, never, rooms)

    def test_much_to_try(self):
        turns = (("x", "y", "z"), ("y", "z", "x"), ("z", "x", "y"), ("x", "x", "y"))
        rows = "\n".join(f"wanted again {one} and before {two} and not {three}" for one, two, three in turns)
        self.assertRaises(NoMachine, fewest, task_of(f"comes a\nanswers x y z\ngiven again a\n{rows}"), 2)
        self.assertEqual(len(fewest(task_of(f"comes\nanswers x y z\n{rows}"), 3)), 3)
        for board, most in (((("a", "b", "c"), ("x", "y")), 1), ((("a", "b"), ("x",)), 2), ((("a", "b", "c"), ()), 2)):
            rows = ["wanted again before before a and not before b", "given again before before a and not before b"]
            names = ["comes " + " ".join(board[0]), "answers " + " ".join(board[1])]
            self.assertEqual(len(fewest(task_of("\n".join(names + rows)), most)), 1)
        names = "comes a b c\nanswers x y\n"
        late = "\n".join(same("x and y", "a and b and c and before not c"))
        self.assertRaises(NoMachine, fewest, task_of(names + late), 1)
        names = "comes a b\nanswers x\n"
        self.assertRaises(NoMachine, fewest, task_of(names + "\n".join(same("x", "before before a or before b"))), 2)


class Refused(unittest.TestCase):
    GREAT = task_of(
        "comes a b c\nanswers x y z\nwanted again " + " or ".join(f"before {name}" for name in "abcxyz")
        + "\ngiven always a or b or x"
    )

    def test_bad_tasks(self):
        for thing in wrong_tasks():
            for most in (1, 8, 0, None, True):
                self.assertRaises(BadTask, fewest, thing, most)

    def test_tasks_that_are_too_great(self):
        for most in (1, 8, 0, None, True):
            self.assertRaises(TooGreat, fewest, (SMALL, (("wanted", "always", chain("before", 7, A)),)), most)
            self.assertRaises(TooGreat, fewest, self.GREAT, most)

    def test_bad_numbers(self):
        for rows in (("wanted always x",), ("wanted always a",)):
            for wrong in [0, 9, 10, -1, True, False, 1.0, 2.0, "1", "", b"1", (1,), [1], None, 10 ** 30] + odd():
                self.assertRaises(BadNumber, fewest, task_by(*rows), wrong)
        # Ahead of what is too much to try.
        self.assertRaises(BadNumber, fewest, ((("a", "b", "c"), ("x", "y", "z")), ()), 9)
        self.assertRaises(TooGreat, fewest, ((("a", "b", "c"), ("x", "y", "z")), ()), 1)

    def test_too_great_ahead_of_no_machine(self):
        for rows in (("wanted always x",), ("wanted always a",)):
            for most in (4, 5, 8):
                self.assertRaises(TooGreat, fewest, task_by(*rows), most)


class Stays(unittest.TestCase):
    def test_what_is_handed_in_stays(self):
        task = task_by(*same("x", "before a"))
        first = fewest(task, 2)
        self.assertEqual(task, task_by(*same("x", "before a")))
        self.assertEqual(fewest(task, 3), first)
        self.assertIsInstance(first, tuple)
        for room in first:
            self.assertEqual([type(room)] + [type(pair) for pair in room], [tuple] * 3)


if __name__ == "__main__":
    unittest.main()
