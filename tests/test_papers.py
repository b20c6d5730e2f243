"""S2 to S5: pairs, and the papers of just those machines and plans that have one."""

import unittest

from plain import Moves, plainly_shows_machine, plainly_shows_plan, steps_of_machine, steps_of_plan
from test_keeper import BOARDS, SMALL, plainly_breaks, plainly_keeps, task_by
from things import A, YES, Numbers, chain, odd, some_machine, some_plan, some_task, wrong_tasks
from wishkeep.errors import BadMachine, BadPlan, BadTask, TooGreat
from wishkeep.keeper import told
from wishkeep.machines import is_machine
from wishkeep.memory import is_position
from wishkeep.papers import machine_papers, pairs_by, pairs_of, plan_papers
from wishkeep.plans import is_plan
from wishkeep.reading import task_of
from wishkeep.tasks import looks_of

NOTHING = ((), ())
COPY = (((0, 0), (1, 0)),)
LATE = (((0, 0), (0, 1)), ((1, 0), (1, 1)))


def ring_machine(many):
    """A machine without names, so many rooms one behind the other, and round."""
    return tuple(((0, (room + 1) % many),) for room in range(many))


def ring_plan(many):
    """A plan likewise."""
    return tuple((0, ((room + 1) % many,)) for room in range(many))


def some_tasks(seed, many, deep):
    """Tasks of several boards that have not too many looks."""
    numbers = Numbers(seed)
    tasks = []
    while len(tasks) < many:
        task = some_task(numbers, numbers.one_of(BOARDS), numbers.below(5), deep)
        if len(looks_of(task)) <= 6:
            tasks.append(task)
    return tasks


def some_told(seed, many, deep):
    """Some tasks with what is told of each: machines, and plans."""
    found = []
    for task in some_tasks(seed, many, deep):
        try:
            found.append((task,) + told(task))
        except TooGreat:
            pass
    assert {word for _, word, _ in found} == {"machine", "plan"}
    return found


class Pairs(unittest.TestCase):
    def check_machine(self, task, machine):
        told_of = pairs_of(task, machine)
        self.assertIsInstance(told_of, list)
        self.assertEqual(told_of, Moves(task, steps_of_machine, machine).pairs())
        self.assertEqual(told_of, pairs_of(task, machine))
        return told_of

    def check_plan(self, task, plan):
        told_of = pairs_by(task, plan)
        self.assertIsInstance(told_of, list)
        self.assertEqual(told_of, Moves(task, steps_of_plan, plan).pairs())
        self.assertEqual(told_of, pairs_by(task, plan))
        return told_of

    def test_small_ones(self):
        self.assertEqual(self.check_machine((NOTHING, ()), (((0, 0),),)), [(0, ((), True, True))])
        self.assertEqual(self.check_plan((NOTHING, ()), ((0, (0,)),)), [(0, ((), True, True))])
        task = task_by("wanted always not x or before a")
        no, yes = ((False,), True, True), ((True,), True, True)
        fell = [((False,), True, False), ((True,), True, False)]
        self.assertEqual(self.check_machine(task, LATE), [(0, no), (1, yes)])
        self.assertEqual(self.check_machine(task, COPY), [(0, no), (0, fell[1]), (0, fell[0])])
        self.assertEqual(self.check_plan(task, ((0, (0, 1)), (1, (0, 1)))), [
            (0, no), (1, fell[0]), (0, fell[1]), (1, fell[1]), (0, fell[0])
        ])

    def test_by_letters_rising(self):
        task = task_of("comes a b\nanswers x\nwanted always yes")
        at = ((), True, True)
        machine = (
            ((0, 3), (0, 1), (0, 3), (0, 2)), ((0, 0),) * 4, ((0, 4),) * 4, ((1, 3), (0, 5)) * 2,
            ((0, 0),) * 4, ((0, 0),) * 4, ((0, 0),) * 4,
        )
        self.assertEqual(self.check_machine(task, machine), [(room, at) for room in (0, 3, 1, 2, 5, 4)])
        task = task_of("comes a\nanswers x y\nwanted always yes")
        plan = ((1, (2, 2, 3, 1)), (0, (4, 0, 0, 4)), (0, (5, 0, 2, 0)), (1, (3,) * 4), (0, (0,) * 4), (1, (0,) * 4))
        self.assertEqual(self.check_plan(task, plan), [(room, at) for room in (0, 2, 3, 1, 5, 4)])

    def test_some(self):
        numbers = Numbers(120)
        sizes = set()
        for task in some_tasks(121, 120, 4):
            sizes.add(len(self.check_machine(task, some_machine(numbers, task[0], 1 + numbers.below(6)))))
            sizes.add(len(self.check_plan(task, some_plan(numbers, task[0], 1 + numbers.below(6)))))
        self.assertGreater(max(sizes), 20)

    def test_1200_pairs_and_1201(self):
        # In the second task the first position is left for ever: its pair is one more.
        for task, more in (((NOTHING, ()), 0), ((NOTHING, (("wanted", "always", chain("before", 1)),)), 1)):
            machine, plan = ring_machine(1200 - more), ring_plan(1200 - more)
            self.assertEqual(len(self.check_machine(task, machine)), 1200)
            self.assertEqual(len(self.check_plan(task, plan)), 1200)
            machine_papers(task, machine)
            plan_papers(task, plan)
            for many in (1201, 4096):
                for tell in (pairs_of, machine_papers):
                    self.assertRaises(TooGreat, tell, task, ring_machine(many - more))
                for tell in (pairs_by, plan_papers):
                    self.assertRaises(TooGreat, tell, task, ring_plan(many - more))

    def test_few_of_many_rooms(self):
        task = task_by("wanted always yes")
        self.assertEqual(len(pairs_of(task, COPY + LATE * 2000)), 1)
        self.assertEqual(len(pairs_by(task, ((0, (0, 0)),) + ((0, (1, 2)),) * 4095)), 1)

    def test_more_positions_than_an_arena_has_places(self):
        rows = "wanted again " + " or ".join(f"before {name}" for name in "abcxyz") + "\ngiven always a or b or x"
        task = task_of(f"comes a b c\nanswers x y z\n{rows}")
        self.assertRaises(TooGreat, told, task)
        numbers = Numbers(122)
        machine = some_machine(numbers, task[0], 8)
        self.assertEqual(len(self.check_machine(task, machine)), len(Moves(task, steps_of_machine, machine).pairs()))
        machine_papers(task, machine)
        self.check_plan(task, some_plan(numbers, task[0], 8))


class Papers(unittest.TestCase):
    def check_machine(self, task, machine, keeps):
        """Checks the paper of a machine that keeps the task or doesn't."""
        self.assertEqual(plainly_keeps(task, machine), keeps)
        paper = machine_papers(task, machine)
        self.assertEqual(paper, machine_papers(task, machine))
        if not keeps:
            self.assertIsNone(paper, (task, machine))
            return None
        self.assertTrue(plainly_shows_machine(task, machine, paper), (task, machine))
        for rows in paper:
            self.assertEqual([row[:2] for row in rows], sorted(pairs_of(task, machine)))
        return paper

    def check_plan(self, task, plan, breaks):
        """Checks the paper of a plan by which every machine breaks the task, or doesn't."""
        self.assertEqual(plainly_breaks(task, plan), breaks)
        paper = plan_papers(task, plan)
        self.assertEqual(paper, plan_papers(task, plan))
        if not breaks:
            self.assertIsNone(paper, (task, plan))
            return None
        self.assertTrue(plainly_shows_plan(task, plan, paper), (task, plan))
        for rows in (paper[0],) + paper[1]:
            self.assertEqual([row[:2] for row in rows], sorted(pairs_by(task, plan)))
        return paper

    def test_one_pair(self):
        paper = self.check_machine((NOTHING, ()), (((0, 0),),), True)
        self.assertEqual([row[:2] for row in paper[0]], [(0, ((), True, True))])
        self.assertEqual(len(paper), 1)
        self.check_plan((NOTHING, ()), ((0, (0,)),), False)
        self.check_machine((NOTHING, (("wanted", "always", ("no",)),)), (((0, 0),),), False)
        self.check_plan((NOTHING, (("wanted", "always", ("no",)),)), ((0, (0,)),), True)

    def test_machines(self):
        self.check_machine(task_by("wanted always not x or before a"), LATE, True)
        self.check_machine(task_by("wanted always not x or before a"), COPY, False)
        self.check_machine(task_by("given again a", "wanted again x"), LATE, True)
        self.check_machine(task_by("given again not a", "wanted again x"), LATE, False)
        self.check_machine(task_by("given again a", "given again not a", "wanted again x and not a"), LATE, True)
        self.check_machine(task_by("given again a", "given again not a", "wanted again x and not a"), COPY, False)
        self.check_machine(task_by("given always not a", "wanted always not x"), COPY, True)
        self.check_machine(task_by("given always not a", "wanted always not x"), LATE, True)
        self.check_machine(task_by("given always not x", "wanted always not a"), COPY, True)
        self.check_machine(task_by("given always x or a", "wanted again a"), (((1, 0), (0, 0)),), False)
        # The paper of each wanted goal by itself.
        paper = self.check_machine(task_by("given again a", "wanted again x", "wanted again before x"), COPY, True)
        self.assertEqual(len(paper), 2)
        self.check_machine(task_by("given again a", "wanted again x", "wanted again x and before x"), COPY, False)

    def test_plans(self):
        self.check_plan(task_by("wanted always a"), ((0, (0, 0)),), True)
        self.check_plan(task_by("wanted always not a or x"), ((1, (0, 0)),), False)
        self.check_plan(task_by("given again a", "wanted again x and before a"), ((1, (0, 0)),), False)
        self.check_plan(task_by("given again a", "wanted again not a"), ((1, (0, 0)),), True)
        turns = ((1, (1, 1)), (0, (0, 0)))
        self.check_plan(task_by("given again a", "given again not a", "wanted always x"), turns, False)
        # Two given goals: one or the other is never met by a plan that stays.
        task = task_by("given again a", "given again not a", "wanted again a and before a")
        self.check_plan(task, ((1, (0, 0)),), False)
        self.check_plan(task, ((0, (0, 0)),), False)
        paper = self.check_plan(task, turns, True)
        self.assertEqual(len(paper[1]), 2)
        # As long as x is answered the given goal isn't met.
        self.check_plan(task_by("given again not x", "wanted again a"), ((0, (0, 0)),), False)

    def test_some(self):
        numbers = Numbers(123)
        seen = {}
        for task in some_tasks(124, 500, 3):
            machine = some_machine(numbers, task[0], 1 + numbers.below(4))
            keeps = plainly_keeps(task, machine)
            self.check_machine(task, machine, keeps)
            plan = some_plan(numbers, task[0], 1 + numbers.below(4))
            breaks = plainly_breaks(task, plan)
            self.check_plan(task, plan, breaks)
            for word in (("keeps", keeps), ("breaks", breaks)):
                seen[word] = seen.get(word, 0) + 1
        self.assertEqual(len(seen), 4)
        self.assertGreater(min(seen.values()), 60, seen)

    def test_what_is_told_has_one(self):
        for task, word, rooms in some_told(125, 150, 4):
            if word == "machine":
                self.check_machine(task, rooms, True)
            else:
                self.check_plan(task, rooms, True)

    def test_many_rooms_one_behind_the_other(self):
        task = (NOTHING, (("wanted", "again", YES), ("given", "again", YES)))
        paper = machine_papers(task, ring_machine(1200))
        self.assertEqual(len(paper[0]), 1200)
        self.assertTrue(plainly_shows_machine(task, ring_machine(1200), paper))
        task = (NOTHING, (("wanted", "again", ("no",)), ("given", "again", YES)))
        paper = plan_papers(task, ring_plan(1200))
        self.assertTrue(plainly_shows_plan(task, ring_plan(1200), paper))
        self.assertIsNone(machine_papers(task, ring_machine(1200)))
        task = task_of("comes\nanswers x\nwanted again x\nwanted again x and before x")
        # It stays in the last room, of which there are two pairs: x was answered or wasn't yet.
        machine = tuple(((0, room + 1),) for room in range(1198)) + (((1, 1198),),)
        paper = machine_papers(task, machine)
        self.assertTrue(plainly_shows_machine(task, machine, paper))
        self.assertEqual([len(rows) for rows in paper], [1200, 1200])

class Refused(unittest.TestCase):
    def test_bad_tasks(self):
        for thing in wrong_tasks():
            for tell in (pairs_of, pairs_by, machine_papers, plan_papers):
                for rooms in (COPY, ((0, (0, 0)),), None, ()):
                    self.assertRaises(BadTask, tell, thing, rooms)

    def test_more_than_six_looks(self):
        task = (SMALL, (("wanted", "always", chain("before", 7, A)),))
        for tell in (pairs_of, pairs_by, machine_papers, plan_papers):
            for rooms in (COPY, ((0, (0, 0)),), None, (), LATE * 2048):
                self.assertRaises(TooGreat, tell, task, rooms)

    def test_bad_machines_and_plans(self):
        task = task_by("wanted always x")
        wrong = [(), COPY[0], [COPY[0]], (((0, 1), (0, 0)),), (((2, 0), (0, 0)),), (((0, 0),),), (((0, 0),) * 3,)]
        wrong += [(((True, 0), (0, 0)),), (((0, False), (0, 0)),), ((0, (0, 0, 0)),), ((0, (0,)),), ((2, (0, 0)),)]
        wrong += [((0, [0, 0]),), ((0, (0, 1)),), ((True, (0, 0)),), ((0, (0, True)),)]
        wrong += [LATE * 2049, ((0, (0, 0)),) * 4097]
        for thing in wrong + odd():
            self.assertFalse(is_machine(SMALL, thing) or is_plan(SMALL, thing))
            for tell in (pairs_of, machine_papers):
                self.assertRaises(BadMachine, tell, task, thing)
            for tell in (pairs_by, plan_papers):
                self.assertRaises(BadPlan, tell, task, thing)
        for tell in (pairs_of, machine_papers):
            self.assertRaises(BadMachine, tell, task, ((0, (0, 0)),))
        for tell in (pairs_by, plan_papers):
            self.assertRaises(BadPlan, tell, task, COPY)

    def test_of_another_board(self):
        task = task_of("comes a b\nanswers x\nwanted always x")
        self.assertRaises(BadMachine, pairs_of, task, COPY)
        self.assertRaises(BadMachine, machine_papers, task, COPY)
        task = task_of("comes a\nanswers x y\nwanted always x")
        self.assertRaises(BadPlan, pairs_by, task, ((0, (0, 0)),))
        self.assertRaises(BadPlan, plan_papers, task, ((0, (0, 0)),))

    def test_too_many_pairs_come_last(self):
        wrong = ring_machine(1300)[:-1] + (((0, 1300),),)
        self.assertRaises(BadMachine, machine_papers, (NOTHING, ()), wrong)
        self.assertRaises(BadTask, machine_papers, ((), ()), ring_machine(1300))
        self.assertRaises(TooGreat, machine_papers, (NOTHING, ()), ring_machine(1300))


class Stays(unittest.TestCase):
    def test_what_is_told_is_the_askers_own(self):
        task = task_by("given again a", "wanted again x")
        pairs = pairs_of(task, LATE)
        kept = list(pairs)
        pairs.clear()
        self.assertEqual(pairs_of(task, LATE), kept)
        plan = ((1, (0, 0)),)
        pairs = pairs_by(task, plan)
        kept = list(pairs)
        pairs.append(None)
        self.assertEqual(pairs_by(task, plan), kept)
        paper = machine_papers(task, LATE)
        self.assertIsInstance(paper, tuple)
        for rows in paper:
            for room, position, number, goal in rows:
                self.assertTrue(is_position(0, position))
                self.assertEqual([type(thing) for thing in (rows, room, number, goal)], [tuple, int, int, int])
        self.assertEqual(task, task_by("given again a", "wanted again x"))


if __name__ == "__main__":
    unittest.main()
