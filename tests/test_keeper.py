"""61: of every task just one is told, a machine that keeps it or a plan by which every machine breaks it."""

import unittest
from itertools import product

from plain import Moves, steps_of_machine, steps_of_plan
from test_games import plainly_ours
from things import A, NO, Numbers, chain, some_letters, some_task, wrong_tasks
from wishkeep.alike import alike, merged
from wishkeep.arena import arena_of
from wishkeep.boards import letters_of
from wishkeep.errors import BadTask, NoMachine, NoPlan, TooGreat, WishError
from wishkeep.keeper import has_it, machine_for, plan_for, told
from wishkeep.machines import is_machine, loop_by, rooms_of
from wishkeep.meaning import is_kept
from wishkeep.plans import is_plan, loop_against, plan_rooms
from wishkeep.reading import task_of
from wishkeep.tasks import goals_of

SMALL = (("a",), ("x",))
BOARDS = (SMALL, (("a", "b"), ("x",)), ((), ("x", "y")), (("a", "b"), ()), ((), ()))


def task_by(*rows):
    """A task of one name on either side."""
    return task_of("\n".join(("comes a", "answers x") + rows))


def moves_of(task, steps, rooms):
    """All moves of a room and a position: from, to, the given and the wanted goals that are met."""
    moves = Moves(task, steps, rooms)
    numbers = {pair: number for number, pair in enumerate(moves.pairs())}
    return [
        (numbers[pair], numbers[behind], met, other) for pair in numbers for behind, met, other in moves.of(pair)
    ]


def rounds_of(moves):
    """Of the moves those that lie on rounds, in groups that lead to and fro."""
    behind = {}
    for begin, end, _, _ in moves:
        behind.setdefault(begin, set()).add(end)
    reached = {}
    for begin in behind:
        found = [begin]
        seen = set()
        while found:
            for end in behind.get(found.pop(), ()):
                if end not in seen:
                    seen.add(end)
                    found.append(end)
        reached[begin] = seen
    groups = {}
    for move in moves:
        begin, end = move[:2]
        if begin in reached.get(end, ()) or begin == end:
            part = frozenset([begin] + [place for place in reached[begin] if begin in reached.get(place, ())])
            groups.setdefault(part, []).append(move)
    return list(groups.values())


def all_met(group, side, goals):
    """Whether the moves of a group meet all goals of a side."""
    return {goal for move in group for goal in move[side]} == set(range(goals))


def plainly_keeps(task, machine):
    """Whether a machine keeps a task: on no round are all given goals met, and some wanted one isn't."""
    moves = moves_of(task, steps_of_machine, machine)
    given, wanted = [len(goals_of(task, side)) for side in ("given", "wanted")]
    return not any(
        all_met(group, 2, given)
        for goal in range(wanted)
        for group in rounds_of([move for move in moves if goal not in move[3]])
    )


def plainly_breaks(task, plan):
    """Whether every machine breaks a task by a plan: on no round some given goal isn't met, or all wanted ones are."""
    moves = moves_of(task, steps_of_plan, plan)
    given, wanted = [len(goals_of(task, side)) for side in ("given", "wanted")]
    if any(rounds_of([move for move in moves if goal not in move[2]]) for goal in range(given)):
        return False
    return not any(all_met(group, 3, wanted) for group in rounds_of(moves))


class Told(unittest.TestCase):
    def check(self, task, word=None):
        """Checks all that is told of a task, and who has it."""
        found = told(task)
        self.assertIsInstance(found, tuple)
        self.assertEqual(len(found), 2)
        self.assertEqual(found, told(task))
        self.assertIn(found[0], ("machine", "plan"))
        if word is not None:
            self.assertEqual(found[0], word, task)
        self.assertIs(has_it(task), found[0] == "machine")
        if found[0] == "machine":
            self.check_machine(task, found[1])
        else:
            self.check_plan(task, found[1])
        return found

    def check_machine(self, task, machine):
        self.assertTrue(is_machine(task[0], machine))
        self.assertEqual(sorted(rooms_of(machine)), list(range(len(machine))))
        self.assertTrue(plainly_keeps(task, machine), task)
        self.assertRaises(NoPlan, plan_for, task)
        smaller = machine_for(task)
        self.assertEqual(smaller, merged(machine))
        self.assertEqual(merged(smaller), smaller)
        self.assertIsNone(alike(smaller, machine))
        self.assertTrue(is_machine(task[0], smaller))

    def check_plan(self, task, plan):
        self.assertTrue(is_plan(task[0], plan))
        self.assertEqual(sorted(plan_rooms(plan)), list(range(len(plan))))
        self.assertTrue(plainly_breaks(task, plan), task)
        self.assertRaises(NoMachine, machine_for, task)
        smaller = plan_for(task)
        self.assertTrue(is_plan(task[0], smaller))
        self.assertEqual(plan_rooms(smaller), tuple(range(len(smaller))))
        self.assertLessEqual(len(smaller), len(plan))
        self.assertTrue(plainly_breaks(task, smaller))
        self.check_fewest(task[0], plan, smaller)

    def check_fewest(self, board, plan, smaller):
        """That the smaller plan's rooms are all unlike, and the same comes by it."""
        answers = range(letters_of(board[1]))
        pairs = [(0, 0)]
        for room, other in pairs:
            self.assertEqual(plan[room][0], smaller[other][0])
            for pair in zip(plan[room][1], smaller[other][1]):
                if pair not in pairs:
                    pairs.append(pair)
        kinds = [smaller[room][0] for room in range(len(smaller))]
        for _ in smaller:
            rows = [(kinds[room],) + tuple(kinds[smaller[room][1][k]] for k in answers) for room in range(len(smaller))]
            kinds = [rows.index(row) for row in rows]
        self.assertEqual(kinds, list(range(len(smaller))))

    def test_without_rows(self):
        for board in BOARDS:
            machine = self.check((board, ()), "machine")[1]
            self.assertEqual(len(machine), 1)

    def test_always_rows(self):
        self.check(task_by("wanted always a or x"), "machine")
        self.check(task_by("wanted always a"), "plan")
        self.check(task_by("given always a", "wanted always a"), "machine")
        self.check(task_by("wanted always x"), "machine")
        self.check(task_by("wanted always before x"), "plan")
        self.check(task_by("wanted always not before yes or before x"), "machine")
        self.check(task_by("given always no", "wanted always no"), "machine")
        self.check(task_by("wanted always no"), "plan")
        # Our answer breaks what is given: that is no fault of ours.
        self.check(task_by("given always not x", "wanted always a"), "machine")
        self.check(task_by("given always not before x", "wanted always was a or not before yes"), "machine")

    def test_again_rows(self):
        self.check(task_by("wanted again a"), "plan")
        self.check(task_by("wanted again x"), "machine")
        self.check(task_by("given again a", "wanted again a"), "machine")
        self.check(task_by("given again a", "wanted again not a"), "plan")
        self.check(task_by("given again a", "wanted again x", "wanted again not x"), "machine")
        self.check(task_by("given again a", "given again not a", "wanted again a and before not a"), "machine")
        self.check(task_by("given again x", "wanted again a"), "machine")
        self.check(task_by("given again a or x", "given again not x", "wanted again a and not x"), "machine")
        self.check(task_by("given again a or before x", "wanted always a or not before yes"), "plan")

    def test_rows_of_all_four_kinds(self):
        rows = ("given always not a or not before a", "given again a", "wanted always not x or not before x")
        self.check(task_by(*rows, "wanted again x"), "machine")
        self.check(task_by(*rows, "wanted again x and before a"), "machine")
        self.check(task_by(*rows, "wanted again x and a", "wanted again x and before a"), "machine")
        self.check(task_by(*rows, "wanted again a and before a"), "plan")
        self.check(task_by(*rows, "wanted always x or not a or before x", "wanted again x and before a"), "plan")
        self.check(task_by(*rows, "wanted always x or not a", "wanted always x or not before a"), "plan")

    def test_without_names_on_a_side(self):
        for text, word in (
            ("comes\nanswers x\nwanted again x\nwanted again not x", "machine"),
            ("comes\nanswers x\nwanted always x and not x", "plan"),
            ("comes\nanswers x\nwanted again x and before x\nwanted always not x or not before x", "plan"),
            ("comes a\nanswers\nwanted again a", "plan"),
            ("comes a\nanswers\ngiven again not a\nwanted again not a", "machine"),
            ("comes a\nanswers\nwanted again a or before not a\ngiven again a", "machine"),
            ("comes\nanswers\nwanted again before yes", "machine"),
            ("comes\nanswers\nwanted always before yes", "plan"),
        ):
            self.check(task_of(text), word)

    def test_some(self):
        numbers = Numbers(90)
        words = {}
        for _ in range(250):
            task = some_task(numbers, numbers.one_of(BOARDS), numbers.below(7), 4)
            try:
                arena = arena_of(task)
            except TooGreat:
                for tell in (told, has_it, machine_for, plan_for):
                    self.assertRaises(TooGreat, tell, task)
                continue
            word = "machine" if 0 in plainly_ours(arena) else "plan"
            self.check(task, word)
            words[word] = words.get(word, 0) + 1
        self.assertGreater(min(words["machine"], words["plan"]), 50, words)

    def test_by_all_machines_of_two_rooms(self):
        machines = [
            (((p, q), (r, s)), ((t, u), (v, w))) for p, q, r, s, t, u, v, w in product(range(2), repeat=8)
        ]
        numbers = Numbers(91)
        seen = set()
        for _ in range(25):
            task = some_task(numbers, SMALL, 1 + numbers.below(4), 2)
            some = any(plainly_keeps(task, machine) for machine in machines)
            if some:
                self.check(task, "machine")
            elif told(task)[0] == "machine":
                self.assertGreater(len(machine_for(task)), 2)
            seen.add(some)
        self.assertEqual(len(seen), 2)

    def test_loops_by_what_wishes_mean(self):
        numbers = Numbers(92)
        words = set()
        for _ in range(120):
            board = BOARDS[numbers.below(4)]
            task = some_task(numbers, board, 1 + numbers.below(4), 3)
            try:
                word, made = told(task)
            except TooGreat:
                continue
            words.add(word)
            many = letters_of(board[0 if word == "machine" else 1])
            for rooms in (made, machine_for(task) if word == "machine" else plan_for(task)):
                for _ in range(25):
                    cycle = (
                        some_letters(numbers, many, numbers.below(4)),
                        some_letters(numbers, many, 1 + numbers.below(4)),
                    )
                    if word == "machine":
                        self.assertTrue(is_kept(task, loop_by(rooms, cycle)), (task, cycle))
                    else:
                        self.assertFalse(is_kept(task, loop_against(rooms, cycle)), (task, cycle))
        self.assertEqual(len(words), 2)

    def test_of_the_greatest_arenas(self):
        befores = " and ".join(f"before {name}" for name in "abcxyz")
        names = "comes a b c\nanswers x y z\nwanted again "
        self.check(task_of(f"{names}x and y and z and not ({befores})"), "machine")
        self.check(task_of(f"{names}{befores}"), "plan")


class Refused(unittest.TestCase):
    def bad(self, error, task):
        for tell in (told, has_it, machine_for, plan_for):
            self.assertRaises(error, tell, task)

    def test_bad_tasks(self):
        for thing in wrong_tasks():
            self.bad(BadTask, thing)

    def test_more_than_six_looks(self):
        self.bad(TooGreat, (SMALL, (("wanted", "always", chain("before", 7, A)),)))
        self.bad(TooGreat, (SMALL, (("wanted", "always", chain("was", 19, NO)),)))

    def test_more_places_than_an_arena_has(self):
        again = "wanted again " + " or ".join(f"before {name}" for name in "abcxyz")
        names = "comes a b c\nanswers x y z\n"
        self.assertEqual(told(task_of(f"{names}{again}\ngiven always not (a and b and x)"))[0], "machine")
        self.bad(TooGreat, task_of(f"{names}{again}\ngiven always a or b or x"))
        self.bad(TooGreat, task_of(names + (again + "\n") * 4))

    def test_no_machine_and_no_plan(self):
        self.assertRaises(NoMachine, machine_for, task_by("wanted always a"))
        self.assertRaises(NoPlan, plan_for, task_by("wanted always x"))
        for tell in (machine_for, plan_for):
            self.assertRaises(WishError, tell, None)


class Stays(unittest.TestCase):
    def test_the_task_stays(self):
        task = task_by("given again a", "wanted again x and before a")
        first = told(task)
        self.assertEqual(task, task_by("given again a", "wanted again x and before a"))
        has_it(task)
        machine_for(task)
        self.assertEqual(told(task_by("given again a", "wanted again x and before a")), first)


if __name__ == "__main__":
    unittest.main()
