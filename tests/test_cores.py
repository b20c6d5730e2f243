"""N2: the fewest wanted rows that can't be kept together, of several tuples of so many the least one."""

import unittest
from itertools import combinations

from test_keeper import BOARDS, SMALL, task_by
from things import A, X, Numbers, chain, some_task, wrong_tasks
from wishkeep.arena import arena_of
from wishkeep.cores import core
from wishkeep.errors import BadTask, TooGreat
from wishkeep.keeper import has_it
from wishkeep.memory import all_positions
from wishkeep.reading import task_of


def with_rows(task, places):
    """The task with all given rows, and of the wanted ones those at some places alone."""
    board, rows = task
    return (board, tuple(row for place, row in enumerate(rows) if row[0] == "given" or place in places))


def wanted_of(task):
    """The places of the wanted rows."""
    return [place for place, row in enumerate(task[1]) if row[0] == "wanted"]


def plain_core(task):
    """The same by trying all, also more rows than the fewest."""
    wanted = wanted_of(task)
    clash = [
        some for many in range(len(wanted) + 1) for some in combinations(wanted, many)
        if not has_it(with_rows(task, some))
    ]
    return min(clash, key=lambda some: (len(some), some), default=None)


class Cores(unittest.TestCase):
    def check(self, task, some):
        told = core(task)
        self.assertEqual(told, some, task)
        self.assertEqual(core(task), told)
        self.assertIs(told is None, has_it(task))
        if told is not None:
            self.assertIsInstance(told, tuple)
            self.assertEqual([type(place) for place in told], [int] * len(told))
            self.assertGreaterEqual(len(told), 1)

    def test_none(self):
        for board in BOARDS:
            self.check((board, ()), None)
        self.check(task_by("wanted always x"), None)
        self.check(task_by("given always no"), None)
        self.check(task_by("given again a", "wanted again x", "wanted again a", "wanted always x or not x"), None)
        self.check(task_by("given always no", "wanted always no", "wanted always x and not x"), None)

    def test_alone(self):
        self.check(task_by("wanted always a"), (0,))
        self.check(task_by("wanted always x", "wanted always a"), (1,))
        self.check(task_by("wanted always x", "wanted again no", "wanted always a", "wanted always not x"), (1,))
        self.check(task_by("wanted again a"), (0,))
        self.check(task_of("comes\nanswers\nwanted always yes\nwanted always before yes"), (1,))

    def test_two_by_two(self):
        self.check(task_by("wanted always x", "wanted always not x"), (0, 1))
        self.check(task_by("wanted always x", "wanted again yes", "wanted again not x"), (0, 2))
        rows = ("wanted always x", "wanted always not x", "wanted always not x or no", "wanted always x and yes")
        self.check(task_by(*rows), (0, 1))
        self.check(task_by(*rows[::-1]), (0, 1))
        self.check(task_by(rows[0], rows[3], rows[2], rows[1]), (0, 2))
        self.check(task_by("wanted again yes", rows[0], rows[3], "wanted again x", rows[1]), (1, 4))
        self.check(task_by("wanted always not x or not a", "wanted always x"), (0, 1))

    def test_three_together(self):
        names = "comes a\nanswers x y\n"
        rows = ("wanted always x or y", "wanted always not x", "wanted always not y", "wanted again x or y")
        self.check(task_of(names + "\n".join(rows)), (0, 1, 2))
        self.check(task_of(names + "\n".join(rows[1:])), (0, 1, 2))
        self.check(task_of(names + "\n".join(("wanted again a or not a",) + rows[::-1])), (1, 2, 3))
        self.check(task_of(names + "\n".join(rows + ("wanted always not a",))), (4,))
        self.check(task_of(names + "\n".join(rows + ("wanted again x and y and not x",))), (4,))
        self.check(task_of(names + "\n".join(rows + ("wanted again y",))), (2, 4))

    def test_four_together(self):
        names = "comes a\nanswers x y z\n"
        rows = ["wanted always x or y or z", "wanted always not x", "wanted always not y", "wanted always not z"]
        self.check(task_of(names + "\n".join(rows)), (0, 1, 2, 3))
        self.check(task_of(names + "\n".join(["given again a"] + rows)), (1, 2, 3, 4))
        self.check(task_of(names + "\n".join(rows[:2] + ["wanted again yes"] + rows[2:])), (0, 1, 3, 4))
        rows[0] = "wanted always x or y or z or not before yes"
        rows.append("wanted always before x or not x")
        self.check(task_of(names + "\n".join(rows)), (0, 1, 2, 3))
        rows = ["wanted again x and not a", "wanted again x and a", "given again a", "given again not a"]
        rows += ["wanted always not x or not before x", "wanted always x or a", "wanted always x or not a or before x"]
        task = task_by(*rows)
        self.check(task, plain_core(task))

    def test_five_together(self):
        names = "comes a\nanswers x y z\n"
        rows = [
            "wanted again x or y or before z", "wanted always not x", "wanted always not y",
            "wanted again x or y or not z or before yes", "wanted always not z",
        ]
        self.check(task_of(names + "\n".join(rows)), (0, 1, 2, 4))
        rows = [
            "wanted always not x or not y or not z", "wanted always x or y or z", "wanted always y or not x",
            "wanted always z or not y", "wanted always x or not z",
        ]
        self.check(task_of(names + "\n".join(rows)), (0, 1, 2, 3, 4))
        self.check(task_of(names + "\n".join(["given again a"] + rows + ["given always a or not a"])), (1, 2, 3, 4, 5))

    def test_given_rows_between(self):
        rows = ("given again a", "wanted always x", "given again not a", "wanted always yes", "given always yes")
        self.check(task_by(*rows, "wanted again not x"), (1, 5))
        self.check(task_by(*rows, "wanted again not a and before not a"), (5,))
        # All given rows stand by each of them.
        self.check(task_by("given always a", "wanted always a", "wanted always not a", "given again a"), (2,))
        self.check(task_by("given again a", "wanted again a", "given always not a", "wanted always not a"), None)

    def test_by_trying_all(self):
        numbers = Numbers(160)
        seen = {}
        for _ in range(220):
            task = some_task(numbers, numbers.one_of(BOARDS), 1 + numbers.below(7), 3)
            if len(wanted_of(task)) > 5:
                continue
            try:
                plain = plain_core(task)
                arena_of(task)
            except TooGreat:
                continue
            self.check(task, plain)
            many = 0 if plain is None else len(plain)
            seen[many] = seen.get(many, 0) + 1
        self.assertGreater(min(seen[0], seen[1]), 30, seen)

    def test_of_rows_that_clash(self):
        numbers = Numbers(161)
        board = (("a",), ("x", "y"))
        words = ["x", "y", "not x", "not y", "x or y", "not x or not y", "x or a", "y or not a", "not x or not a", "a"]
        seen = {}
        heads = ["wanted always", "wanted always", "wanted again", "given again"]
        for _ in range(150):
            rows = [f"{numbers.one_of(heads)} {numbers.one_of(words)}" for _ in range(5)]
            task = task_of("comes a\nanswers x y\n" + "\n".join(rows))
            self.assertEqual(task[0], board)
            plain = plain_core(task)
            self.check(task, plain)
            many = 0 if plain is None else len(plain)
            seen[many] = seen.get(many, 0) + 1
        self.assertGreater(min(seen.get(many, 0) for many in (0, 1, 2, 3)), 3, seen)


class Refused(unittest.TestCase):
    def test_bad_tasks(self):
        for thing in wrong_tasks():
            self.assertRaises(BadTask, core, thing)

    def test_too_great(self):
        self.assertRaises(TooGreat, core, (SMALL, (("wanted", "always", chain("before", 7, A)),)))
        self.assertRaises(TooGreat, core, (SMALL, (("wanted", "always", X), ("given", "always", chain("was", 7, A)))))
        again = "wanted again " + " or ".join(f"before {name}" for name in "abcxyz")
        names = "comes a b c\nanswers x y z\n"
        self.assertIsNone(core(task_of(f"{names}{again}\ngiven always not (a and b and x)")))
        self.assertRaises(TooGreat, core, task_of(f"{names}{again}\ngiven always a or b or x"))
        self.assertRaises(TooGreat, core, task_of(names + (again + "\n") * 4))

    def test_too_great_of_fewer_rows(self):
        # With the first row WANTED falls at once, and stays so; without it each memory stands beside both.
        names = "comes a b c\nanswers x y z\n"
        again = "wanted again " + " or ".join(f"before {name}" for name in "abcxyz")
        task = task_of(f"{names}wanted always no\n{again}\nwanted always a or b or x")
        self.assertLessEqual(len(all_positions(task)), 66)
        arena_of(task)
        self.assertFalse(has_it(task))
        self.assertRaises(TooGreat, arena_of, with_rows(task, (1, 2)))
        self.assertRaises(TooGreat, core, task)
        # Also where all is kept.
        task = task_of(f"{names}given always no\nwanted always no\n{again}\nwanted always a or b or x")
        self.assertTrue(has_it(task))
        self.assertGreater(len(all_positions(with_rows(task, (2, 3)))), 120)
        self.assertRaises(TooGreat, core, task)

    def test_more_than_five_wanted_rows(self):
        yes, no = "wanted always x", "wanted again a and not a"
        for row, others in ((yes, 0), (no, 0), (yes, 2), (no, 2)):
            for many in range(1, 9 - others):
                task = task_by(*(("given again a",) * others + (row,) * many))
                if many > 5:
                    self.assertRaises(TooGreat, core, task)
                else:
                    self.assertEqual(core(task), None if row == yes else (others,))
        self.assertIsNone(core(task_by(*(("given again a",) * 8))))


class Stays(unittest.TestCase):
    def test_what_is_handed_in_stays(self):
        rows = ("given again a", "wanted always x", "wanted again not x")
        task = task_by(*rows)
        first = core(task)
        self.assertEqual(task, task_by(*rows))
        self.assertEqual(core(task), first)


if __name__ == "__main__":
    unittest.main()
