"""S5: whether machines keep tasks, and plans break them; else letters that show it."""

import unittest

from plain import Moves, many_goals, steps_of_machine, steps_of_plan
from test_keeper import BOARDS, SMALL, plainly_breaks, plainly_keeps, task_by
from test_papers import COPY, LATE, NOTHING, ring_machine, ring_plan, some_tasks, some_told
from things import A, YES, Numbers, chain, odd, some_letters, some_machine, some_plan, wrong_tasks
from wishkeep.boards import letters_of
from wishkeep.errors import BadMachine, BadPlan, BadTask, TooGreat
from wishkeep.keeper import machine_for, plan_for
from wishkeep.keeping import breaking, breaks, keeps, saving
from wishkeep.machines import loop_by
from wishkeep.meaning import is_kept
from wishkeep.papers import machine_papers, plan_papers
from wishkeep.plans import loop_against
from wishkeep.reading import task_of

NEVER = ("not", YES)
TURNS = ((1, (1, 1)), (0, (0, 0)))


def walked(moves, pair, letters):
    """The pair behind letters, and the given and the wanted goals that are met along them."""
    met = [set(), set()]
    for letter in letters:
        pair, given, wanted = moves.of(pair)[letter]
        met[0] |= set(given)
        met[1] |= set(wanted)
    return (pair, met[0], met[1])


class Checks(unittest.TestCase):
    def letters(self, cycle, many, pairs, goals):
        """Checks the form of STEM and ROUND."""
        self.assertIsInstance(cycle, tuple)
        stem, again = cycle
        for row in cycle:
            self.assertIsInstance(row, tuple)
            self.assertEqual([type(letter) for letter in row], [int] * len(row))
            self.assertLessEqual(set(row), set(range(many)))
        self.assertLess(len(stem), pairs)
        self.assertGreaterEqual(len(again), 1)
        self.assertLessEqual(len(again), pairs * goals + pairs)

    def machine(self, task, machine, kept):
        """Checks whether the machine keeps the task, and the letters by which it breaks it."""
        self.assertIs(keeps(task, machine), kept, (task, machine))
        self.assertIs(machine_papers(task, machine) is not None, kept)
        cycle = breaking(task, machine)
        self.assertEqual(cycle, breaking(task, machine))
        if kept:
            self.assertIsNone(cycle)
            return None
        moves = Moves(task, steps_of_machine, machine)
        given, wanted = many_goals(task)
        self.letters(cycle, len(machine[0]), len(moves.pairs()), given)
        pair = walked(moves, moves.first, cycle[0])[0]
        behind, met, other = walked(moves, pair, cycle[1])
        self.assertEqual(behind, pair)
        self.assertEqual(met, set(range(given)))
        self.assertLess(len(other), wanted)
        self.by_meaning(task, loop_by, machine, cycle, False)
        return cycle

    def plan(self, task, plan, broken):
        """Checks whether the plan breaks the task, and the letters by which it is kept."""
        self.assertIs(breaks(task, plan), broken, (task, plan))
        self.assertIs(plan_papers(task, plan) is not None, broken)
        cycle = saving(task, plan)
        self.assertEqual(cycle, saving(task, plan))
        if broken:
            self.assertIsNone(cycle)
            return None
        moves = Moves(task, steps_of_plan, plan)
        given, wanted = many_goals(task)
        self.letters(cycle, len(plan[0][1]), len(moves.pairs()), wanted)
        pair = walked(moves, moves.first, cycle[0])[0]
        behind, met, other = walked(moves, pair, cycle[1])
        self.assertEqual(behind, pair)
        self.assertTrue(len(met) < given or len(other) == wanted)
        self.by_meaning(task, loop_against, plan, cycle, True)
        return cycle

    def by_meaning(self, task, loop_of_letters, rooms, cycle, kept):
        """Checks by what wishes mean that the turns of these letters keep the task, or break it."""
        if max(len(row) for row in cycle) <= 200:
            try:
                loop = loop_of_letters(rooms, cycle)
            except TooGreat:
                return
            self.assertIs(is_kept(task, loop), kept, (task, rooms, cycle))


class Small(Checks):
    def test_one_pair(self):
        self.machine((NOTHING, ()), ring_machine(1), True)
        self.assertEqual(self.plan((NOTHING, ()), ring_plan(1), False), ((), (0,)))
        task = (NOTHING, (("wanted", "again", NEVER),))
        self.assertEqual(self.machine(task, ring_machine(1), False), ((), (0,)))
        self.plan(task, ring_plan(1), True)

    def test_always_rows(self):
        self.machine(task_by("wanted always not x or before a"), LATE, True)
        self.machine(task_by("wanted always not x or before a"), COPY, False)
        self.machine(task_by("given always not a", "wanted always not x"), COPY, True)
        self.machine(task_by("given always not x", "wanted always not a"), COPY, True)
        self.machine(task_by("wanted always x"), COPY, False)
        self.plan(task_by("wanted always a"), ((0, (0, 0)),), True)
        self.plan(task_by("wanted always not a or x"), ((1, (0, 0)),), False)
        self.plan(task_by("given always not x", "wanted always a"), ((0, (0, 0)),), False)
        self.plan(task_by("given always x or not before x", "wanted always a"), ((0, (0, 0)),), False)

    def test_two_given_goals(self):
        # One or the other never met, or both.
        rows = ("given again a", "given again not a", "wanted again x and not a")
        self.machine(task_by(*rows), COPY, False)
        self.machine(task_by(*rows), LATE, True)
        self.machine(task_by("given again a and x", "given again not a", "wanted again before a"), COPY, True)
        self.machine(task_by("given again a and not x", "given again not a", "wanted again not yes"), COPY, True)
        self.machine(task_by("given again a", "given again not a and x", "wanted again not yes"), COPY, True)
        self.machine(task_by("given again a", "given again not a", "wanted again not yes"), COPY, False)
        rows = ("given again a", "given again not a", "wanted again a and before a")
        self.plan(task_by(*rows), ((1, (0, 0)),), False)
        self.plan(task_by(*rows), ((0, (0, 0)),), False)
        self.plan(task_by(*rows), TURNS, True)
        rows = ("given again a and x", "given again not a", "wanted again a and before a")
        self.plan(task_by(*rows), TURNS, False)
        rows = ("given again a", "given again not a and x", "wanted again a and before a")
        self.plan(task_by(*rows), TURNS, False)

    def test_several_wanted_goals(self):
        self.machine(task_by("given again a", "wanted again x", "wanted again before x"), COPY, True)
        self.machine(task_by("given again a", "wanted again x", "wanted again x and before x"), COPY, False)
        self.plan(task_by("wanted again x", "wanted again not x", "wanted again x and before x"), TURNS, False)
        self.plan(task_by("wanted again x", "wanted again not x", "wanted again a and before a"), TURNS, True)

    def test_without_names_on_a_side(self):
        self.machine(task_of("comes\nanswers x\nwanted again x"), (((0, 1),), ((1, 0),)), True)
        self.machine(task_of("comes\nanswers x\nwanted again x and before x"), (((0, 1),), ((1, 0),)), False)
        self.machine(task_of("comes a\nanswers\nwanted again a\ngiven again a"), (((0, 0), (0, 0)),), True)
        self.plan(task_of("comes a\nanswers\nwanted again a"), ((1, (0,)),), False)
        self.plan(task_of("comes a\nanswers\nwanted again a"), ((0, (0,)),), True)
        self.plan(task_of("comes\nanswers x y\nwanted again x"), ((0, (0, 0, 0, 0)),), False)

    def test_a_round_that_is_far_off(self):
        # x is never answered once the last room is come to, but by letters that lead out again.
        many = 40
        rooms = [((1, 0), (1, room + 1)) for room in range(many)] + [((0, many), (1, 0))]
        stem, again = self.machine(task_by("wanted again x"), tuple(rooms), False)
        self.assertEqual(stem, (1,) * many)
        self.assertEqual(again, (0,))
        self.machine(task_by("wanted again x", "given again a"), tuple(rooms), True)
        stem, again = self.machine(task_by("wanted again not x", "given again a"), tuple(rooms), False)


class Many(Checks):
    def test_some(self):
        numbers = Numbers(140)
        seen = {}
        for task in some_tasks(141, 700, 3):
            machine = some_machine(numbers, task[0], 1 + numbers.below(5))
            kept = plainly_keeps(task, machine)
            self.machine(task, machine, kept)
            plan = some_plan(numbers, task[0], 1 + numbers.below(5))
            broken = plainly_breaks(task, plan)
            self.plan(task, plan, broken)
            for word in (("keeps", kept), ("breaks", broken)):
                seen[word] = seen.get(word, 0) + 1
        self.assertEqual(len(seen), 4)
        self.assertGreater(min(seen.values()), 90, seen)

    def test_some_of_many_goals(self):
        numbers = Numbers(142)
        names = "comes a b\nanswers x y\n"
        words = ["a", "b", "x", "y", "a and before x", "x and before b", "not a", "not x", "y and not b", "not y or a"]
        seen = {}
        for _ in range(200):
            rows = [
                f"{numbers.one_of(('given', 'given', 'wanted'))} again {numbers.one_of(words)}"
                for _ in range(2 + numbers.below(7))
            ]
            task = task_of(names + "\n".join(rows))
            machine = some_machine(numbers, task[0], 1 + numbers.below(5))
            kept = plainly_keeps(task, machine)
            self.machine(task, machine, kept)
            plan = some_plan(numbers, task[0], 1 + numbers.below(5))
            broken = plainly_breaks(task, plan)
            self.plan(task, plan, broken)
            for word in (("keeps", kept), ("breaks", broken)):
                seen[word] = seen.get(word, 0) + 1
        self.assertEqual(len(seen), 4, seen)

    def test_what_is_told(self):
        for task, word, rooms in some_told(143, 150, 4):
            if word == "machine":
                self.machine(task, rooms, True)
                self.machine(task, machine_for(task), True)
            else:
                self.plan(task, rooms, True)
                self.plan(task, plan_for(task), True)

    def test_loops_by_what_wishes_mean(self):
        # No loop of a machine that keeps the task breaks it, and no loop of a plan by which it is broken keeps it.
        numbers = Numbers(144)
        for task in some_tasks(145, 200, 3):
            machine = some_machine(numbers, task[0], 2)
            plan = some_plan(numbers, task[0], 2)
            comes, answers = [letters_of(names) for names in task[0]]
            for _ in range(10):
                stem, again = numbers.below(4), 1 + numbers.below(4)
                if keeps(task, machine):
                    cycle = (some_letters(numbers, comes, stem), some_letters(numbers, comes, again))
                    self.assertTrue(is_kept(task, loop_by(machine, cycle)))
                if breaks(task, plan):
                    cycle = (some_letters(numbers, answers, stem), some_letters(numbers, answers, again))
                    self.assertFalse(is_kept(task, loop_against(plan, cycle)))

    def test_eight_goals(self):
        names = "comes a b c\nanswers x\n"
        letters = ["a", "b", "c", "a and b", "a and not b", "b and not c", "c and not a"]
        rows = "".join(f"given again {wish}\n" for wish in letters)
        task = task_of(f"{names}{rows}wanted again x and before x")
        machine = tuple(tuple((room >> 1 & 1, (room + 1) % 7) for _ in range(8)) for room in range(7))
        self.machine(task, machine, True)
        machine = tuple(tuple((room & 1, (room + 1) % 6) for _ in range(8)) for room in range(6))
        self.machine(task, machine, False)

    def test_far_along_long_rows(self):
        many = 1200
        row = ring_machine(many)[:-1] + (((0, many - 1),),)
        task = (NOTHING, (("wanted", "again", NEVER), ("given", "again", YES)))
        self.assertEqual(self.machine(task, row, False), ((0,) * (many - 1), (0,)))
        self.assertEqual(self.machine(task, ring_machine(many), False), ((), (0,) * many))
        self.plan((NOTHING, (("wanted", "again", YES),)), ring_plan(many), False)
        row = ring_plan(many)[:-1] + ((0, (many - 1,)),)
        self.assertEqual(self.plan((NOTHING, ()), row, False), ((0,) * (many - 1), (0,)))

    def test_goals_far_from_one_another(self):
        # A long ring; each goal is met at one place alone.
        names = "comes a\nanswers x y z\n"
        rows = "given again x\ngiven again y\ngiven again x and y\nwanted again z"
        answers = [0] * 60
        answers[5], answers[25], answers[45] = 1, 2, 3
        machine = tuple(
            ((answer, room), (answer, (room + 1) % 60)) for room, answer in enumerate(answers)
        )
        cycle = self.machine(task_of(names + rows), machine, False)
        self.assertGreaterEqual(len(cycle[1]), 60)


class Refused(unittest.TestCase):
    FUNCTIONS = (keeps, breaking, breaks, saving)

    def test_bad_tasks(self):
        for thing in wrong_tasks():
            for tell in self.FUNCTIONS:
                for rooms in (COPY, ((0, (0, 0)),), None):
                    self.assertRaises(BadTask, tell, thing, rooms)

    def test_more_than_six_looks(self):
        task = (SMALL, (("wanted", "always", chain("before", 7, A)),))
        for tell in self.FUNCTIONS:
            for rooms in (COPY, ((0, (0, 0)),), None, ()):
                self.assertRaises(TooGreat, tell, task, rooms)

    def test_bad_machines_and_plans(self):
        task = task_by("wanted always x")
        for thing in odd() + [(), (((0, 1), (0, 0)),), ((0, (0, 1)),), LATE * 2049, ((0, (0, 0)),) * 4097]:
            for tell in (keeps, breaking):
                self.assertRaises(BadMachine, tell, task, thing)
            for tell in (breaks, saving):
                self.assertRaises(BadPlan, tell, task, thing)
        for tell in (keeps, breaking):
            self.assertRaises(BadMachine, tell, task, ((0, (0, 0)),))
            self.assertRaises(BadMachine, tell, (BOARDS[1], ()), COPY)
        for tell in (breaks, saving):
            self.assertRaises(BadPlan, tell, task, COPY)
            self.assertRaises(BadPlan, tell, (BOARDS[2], ()), ((0, (0, 0)),))

    def test_1200_pairs_and_1201(self):
        for task, more in (((NOTHING, ()), 0), ((NOTHING, (("wanted", "always", chain("before", 1)),)), 1)):
            for tell in self.FUNCTIONS:
                ring = ring_machine if tell in (keeps, breaking) else ring_plan
                tell(task, ring(1200 - more))
                for many in (1201, 4096):
                    self.assertRaises(TooGreat, tell, task, ring(many - more))

    def test_too_many_pairs_come_last(self):
        wrong = ring_machine(1300)[:-1] + (((0, 1300),),)
        self.assertRaises(BadMachine, keeps, (NOTHING, ()), wrong)
        self.assertRaises(BadPlan, breaks, (NOTHING, ()), ring_plan(1300)[:-1] + ((0, (1300,)),))
        self.assertRaises(BadTask, keeps, ((), ()), ring_machine(1300))


class Stays(unittest.TestCase):
    def test_the_same_each_time(self):
        rows = ("given again a", "given again not a", "wanted again x and not a")
        first = breaking(task_by(*rows), COPY)
        saving(task_by(*rows), TURNS)
        self.assertEqual(breaking(task_by(*rows), COPY), first)
        self.assertEqual(COPY, (((0, 0), (1, 0)),))


if __name__ == "__main__":
    unittest.main()
