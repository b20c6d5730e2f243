"""M3: positions; M4: goals that are met along turns; M2 beside both."""

import unittest

from things import A, B, NO, X, YES, Numbers, chain, odd, some_task
from wishkeep.boards import all_turns
from wishkeep.errors import BadPosition
from wishkeep.meaning import is_kept, values_along
from wishkeep.memory import all_positions, first_position, moved, need_position, positions_along
from wishkeep.reading import task_of, turn_of
from wishkeep.tasks import always_of, goals_of, looks_of

BOARD = (("a", "b"), ("x",))
NOTHING = (0, 0)


def task_by(*rows):
    """A task of the board, of rows of text."""
    return task_of("\n".join(("comes a b", "answers x") + rows))


def memory_along(row, *turns):
    """What the looks of a task of one row keep behind some turns, as figures."""
    task = task_by(row)
    position = positions_along(task, [turn_of(BOARD, turn) for turn in turns])[-1]
    return "".join("1" if truth else "0" for truth in position[0])


class First(unittest.TestCase):
    def test_all_looks_keep_false(self):
        self.assertEqual(first_position((BOARD, ())), ((), True, True))
        self.assertEqual(first_position(task_by("wanted always not x")), ((), True, True))
        self.assertEqual(first_position(task_by("given again before a")), ((False,), True, True))
        task = task_by("given always was before a", "wanted again (a since b) or before a")
        self.assertEqual(first_position(task), ((False, False, False), True, True))

    def test_of_wishes_that_never_hold(self):
        self.assertEqual(first_position((BOARD, (("given", "always", NO), ("wanted", "always", NO)))), ((), True, True))

    def test_as_many_as_there_are_looks(self):
        for many in range(9):
            task = (BOARD, (("wanted", "always", chain("before", many, A)),))
            self.assertEqual(first_position(task), ((False,) * many, True, True))


class Needed(unittest.TestCase):
    def setUp(self):
        self.task = task_by("given always before a", "wanted again a since b")

    def test_any_truths(self):
        for bits in range(16):
            one, two, given, wanted = [bits >> k & 1 == 1 for k in range(4)]
            self.assertIsNone(need_position(self.task, ((one, two), given, wanted)))
        for truth in (True, False):
            self.assertIsNone(need_position((BOARD, ()), ((), truth, not truth)))

    def test_positions_that_no_turns_lead_to(self):
        task = task_by("wanted always was a", "wanted always was not a")
        none = ((False, False), True, True)
        self.assertIsNone(need_position(task, none))
        self.assertEqual(all_positions(task).count(none), 1)
        there = ((True, True), True, True)
        self.assertNotIn(there, all_positions(task))
        self.assertIsNone(need_position(task, there))
        self.assertEqual(moved(task, there, NOTHING), (there, (0,), (0,)))

    def bad(self, task, thing):
        self.assertRaises(BadPosition, need_position, task, thing)
        self.assertRaises(BadPosition, moved, task, thing, NOTHING)

    def test_too_few_or_too_many_truths(self):
        for memory in ((), (True,), (True, True, True), (False,) * 7):
            self.bad(self.task, (memory, True, True))
        self.bad((BOARD, ()), ((False,), True, True))

    def test_other_forms(self):
        memory = (True, False)
        for thing in (
            [memory, True, True], (list(memory), True, True), (memory, True), (memory,), (memory, True, True, True), (),
            memory, (True, True, memory), (memory, memory, True), True, "010", {0: memory, 1: True, 2: True},
            ({True: 0, False: 1}, True, True), ("ab", True, True), (memory, (), True), ((memory, True, True),),
        ):
            self.bad(self.task, thing)

    def test_numbers_and_others_for_truths(self):
        for wrong in (0, 1, None, "", "True", (), [], 10 ** 30):
            self.bad(self.task, ((wrong, True), True, True))
            self.bad(self.task, ((True, wrong), True, True))
            self.bad(self.task, ((True, True), wrong, True))
            self.bad(self.task, ((True, True), False, wrong))

    def test_things_of_other_kinds(self):
        for thing in odd():
            self.bad(self.task, thing)
            self.bad((BOARD, ()), thing)
            if not isinstance(thing, tuple) or thing != (False, False):
                self.bad(self.task, (thing, True, True))
            if thing is not True and thing is not False:
                self.bad(self.task, ((thing, True), True, True))
                self.bad(self.task, ((True, True), thing, True))
                self.bad(self.task, ((True, True), True, thing))


class Looks(unittest.TestCase):
    def test_before_keeps_what_stands_within_it(self):
        row = "wanted always before a"
        self.assertEqual(memory_along(row), "0")
        self.assertEqual(memory_along(row, "a/-"), "1")
        self.assertEqual(memory_along(row, "a/-", "-/-"), "0")
        self.assertEqual(memory_along(row, "-/-", "a/-"), "1")
        self.assertEqual(memory_along("wanted always before not a", "-/-"), "1")
        self.assertEqual(memory_along("wanted always before yes"), "0")
        self.assertEqual(memory_along("wanted always before yes", "-/-"), "1")

    def test_was_keeps_its_own(self):
        row = "wanted again was a"
        self.assertEqual(memory_along(row), "0")
        self.assertEqual(memory_along(row, "-/-"), "0")
        self.assertEqual(memory_along(row, "-/-", "a/-"), "1")
        self.assertEqual(memory_along(row, "a/-", "-/-", "-/x"), "1")

    def test_since_keeps_its_own(self):
        row = "given again a since b"
        self.assertEqual(memory_along(row, "a/-"), "0")
        self.assertEqual(memory_along(row, "b/-"), "1")
        self.assertEqual(memory_along(row, "b/-", "a/-", "a/-"), "1")
        self.assertEqual(memory_along(row, "b/-", "a/-", "-/-"), "0")
        self.assertEqual(memory_along(row, "b/-", "-/-", "a/-"), "0")
        self.assertEqual(memory_along(row, "b/-", "-/-", "a+b/-"), "1")

    def test_looks_within_looks(self):
        self.assertEqual(memory_along("given again before before a", "a/-"), "10")
        self.assertEqual(memory_along("given again before before a", "a/-", "-/-"), "01")
        self.assertEqual(memory_along("given again before was a", "a/-"), "11")
        self.assertEqual(memory_along("given again was before a", "a/-"), "10")
        self.assertEqual(memory_along("given again was before a", "a/-", "-/-"), "01")
        self.assertEqual(memory_along("given again (before a) since was x", "-/x"), "011")
        self.assertEqual(memory_along("given again (before a) since before b", "b/-"), "010")
        self.assertEqual(memory_along("given again (before a) since before b", "b/-", "a/-"), "101")
        self.assertEqual(memory_along("given again (before a) since before b", "b/-", "a/-", "-/-"), "001")
        self.assertEqual(memory_along("given again (before a) since before b", "b/-", "-/-", "-/-"), "000")

    def test_a_look_that_stands_often(self):
        task = task_by("given again before a", "wanted again not before a", "wanted always before a or before x")
        self.assertEqual(moved(task, ((False, False), True, True), (1, 0))[0], ((True, False), True, False))

    def test_by_the_values_of_wishes(self):
        numbers = Numbers(20)
        for _ in range(150):
            task = some_task(numbers, BOARD, numbers.below(6), 5)
            turns = [numbers.one_of(all_turns(BOARD)) for _ in range(7)]
            told = positions_along(task, turns)
            self.assertEqual(len(told), 8)
            self.assertEqual(told[0], first_position(task))
            for moment in range(7):
                self.assertEqual(told[moment + 1], position_behind(task, turns[:moment + 1]), task)


def position_behind(task, turns):
    """The position behind one turn or more, by the values of wishes along them."""
    memory = []
    for look in looks_of(task):
        kept = look[1] if look[0] == "before" else look
        memory.append(values_along(BOARD, kept, turns)[-1])
    stand = [
        all(all(values_along(BOARD, wish, turns)) for wish in always_of(task, side)) for side in ("given", "wanted")
    ]
    return (tuple(memory), stand[0], stand[1])


class Moved(unittest.TestCase):
    def test_goals_that_are_met_and_not(self):
        task = task_by("given again a", "wanted again x", "given again b", "wanted again not x", "wanted again a")
        start = first_position(task)
        self.assertEqual(moved(task, start, (0, 0)), (start, (), (1,)))
        self.assertEqual(moved(task, start, (1, 0)), (start, (0,), (1, 2)))
        self.assertEqual(moved(task, start, (2, 1)), (start, (1,), (0,)))
        self.assertEqual(moved(task, start, (3, 1)), (start, (0, 1), (0, 2)))

    def test_no_again_rows(self):
        for task in ((BOARD, ()), task_by("given always yes", "wanted always yes or x")):
            for turn in all_turns(BOARD):
                self.assertEqual(moved(task, ((), True, True), turn), (((), True, True), (0,), (0,)))
        self.assertEqual(moved((BOARD, ()), ((), False, True), NOTHING), (((), False, True), (), (0,)))
        self.assertEqual(moved((BOARD, ()), ((), True, False), NOTHING), (((), True, False), (0,), ()))

    def test_given_falls_along_this_very_turn(self):
        task = task_by("given always a", "given again a or x", "wanted again x", "wanted always b")
        self.assertEqual(moved(task, ((), True, True), (3, 1)), (((), True, True), (0,), (0,)))
        self.assertEqual(moved(task, ((), True, True), (2, 1)), (((), False, True), (), (0,)))
        self.assertEqual(moved(task, ((), True, True), (1, 1)), (((), True, False), (0,), ()))
        self.assertEqual(moved(task, ((), True, True), (0, 1)), (((), False, False), (), ()))

    def test_what_fell_never_comes_back(self):
        task = task_by("given always a", "given again yes", "wanted again yes", "wanted always b")
        self.assertEqual(moved(task, ((), False, True), (3, 1)), (((), False, True), (), (0,)))
        self.assertEqual(moved(task, ((), True, False), (3, 1)), (((), True, False), (0,), ()))
        self.assertEqual(moved(task, ((), False, False), (3, 1)), (((), False, False), (), ()))

    def test_several_always_rows(self):
        task = task_by("given always a", "given always b", "wanted always a or x", "wanted always b or x")
        for came in range(4):
            for answered in range(2):
                position, _, _ = moved(task, ((), True, True), (came, answered))
                self.assertEqual(position, ((), came == 3, came == 3 or answered == 1))

    def test_goals_by_looks(self):
        task = task_by("given again before a", "wanted again was x", "given again not before a")
        start = ((False, False), True, True)
        self.assertEqual(moved(task, start, (1, 1)), (((True, True), True, True), (1,), (0,)))
        self.assertEqual(moved(task, ((True, False), True, True), (0, 0)), (start, (0,), ()))
        self.assertEqual(moved(task, ((False, True), True, True), (0, 0)), (((False, True), True, True), (1,), (0,)))

    def test_like_goals_each_by_itself(self):
        task = task_by("given again a", "given again a", "given again b", "wanted again x", "wanted again x")
        self.assertEqual(moved(task, ((), True, True), (1, 1))[1:], ((0, 1), (0, 1)))

    def test_eight_goals_on_a_side(self):
        task = (BOARD, tuple(("wanted", "again", A if k % 2 else B) for k in range(8)))
        self.assertEqual(moved(task, ((), True, True), (1, 0))[1:], ((0,), (1, 3, 5, 7)))
        self.assertEqual(moved(task, ((), True, True), (2, 0))[1:], ((0,), (0, 2, 4, 6)))

    def test_kinds_of_what_is_told(self):
        task = task_by("given again before a", "wanted always was x")
        position, met, other = moved(task, first_position(task), (1, 1))
        for truth in position[0] + position[1:]:
            self.assertIsInstance(truth, bool)
        self.assertIsInstance(met, tuple)
        self.assertIsInstance(other, tuple)
        self.assertIsNone(need_position(task, position))

    def test_the_same_each_time(self):
        task = task_by("given again before a", "wanted always was x")
        before = first_position(task)
        self.assertEqual(moved(task, before, (1, 1)), moved(task, before, (1, 1)))
        self.assertEqual(before, ((False, False), True, True))

    def test_by_the_values_of_wishes(self):
        numbers = Numbers(21)
        for _ in range(150):
            task = some_task(numbers, BOARD, numbers.below(7), 4)
            turns = [numbers.one_of(all_turns(BOARD)) for _ in range(6)]
            before = positions_along(task, turns[:5])[-1]
            behind, met, other = moved(task, before, turns[5])
            self.assertEqual(behind, position_behind(task, turns))
            for side, stands, told in (("given", behind[1], met), ("wanted", behind[2], other)):
                goals = enumerate(goals_of(task, side))
                now = tuple(k for k, goal in goals if stands and values_along(BOARD, goal, turns)[-1])
                self.assertEqual(told, now, (task, turns))


class Along(unittest.TestCase):
    def test_no_turns(self):
        task = task_by("given again before a")
        self.assertEqual(positions_along(task, []), [((False,), True, True)])
        self.assertEqual(positions_along(task, ()), [((False,), True, True)])

    def test_lists_and_tuples(self):
        task = task_by("given always before a or not was b", "wanted always x")
        turns = [(1, 1), (2, 1), (0, 1), (0, 0)]
        told = positions_along(task, turns)
        self.assertEqual(told, [
            ((False, False), True, True), ((True, False), True, True), ((False, True), True, True),
            ((False, True), False, True), ((False, True), False, False),
        ])
        self.assertEqual(positions_along(task, tuple(turns)), told)

    def test_many(self):
        task = task_by("given always was not a or yes", "wanted again before x")
        told = positions_along(task, [(1, 1)] * 3000)
        self.assertEqual(len(told), 3001)
        self.assertEqual(told[-1], ((False, True), True, True))

    def test_the_list_is_the_askers_own(self):
        task = task_by("given again before a")
        turns = [(1, 0), (0, 0)]
        told = positions_along(task, turns)
        turns.clear()
        self.assertEqual(len(told), 3)
        told.clear()
        self.assertEqual(len(positions_along(task, [(1, 0), (0, 0)])), 3)


class All(unittest.TestCase):
    def test_without_rows(self):
        for board in (BOARD, ((), ()), (("a",), ()), ((), ("x", "y", "z")), (("a", "b", "c"), ("x", "y", "z"))):
            self.assertEqual(all_positions((board, ())), [((), True, True)])

    def test_without_looks(self):
        self.assertEqual(all_positions(task_by("given again a", "wanted again x")), [((), True, True)])
        task = task_by("given always a", "wanted always x")
        self.assertEqual(all_positions(task), [
            ((), True, True), ((), False, False), ((), False, True), ((), True, False),
        ])

    def test_by_came_then_by_answered(self):
        task = task_by("wanted again before x and before a")
        self.assertEqual(all_positions(task), [
            ((False, False), True, True), ((True, False), True, True), ((False, True), True, True),
            ((True, True), True, True),
        ])

    def test_as_they_come_not_all_of_one_first(self):
        task = task_by("wanted again before before before a")
        figures = ["".join("1" if truth else "0" for truth in memory) for memory, _, _ in all_positions(task)]
        self.assertEqual(figures, ["000", "100", "010", "110", "001", "101", "011", "111"])

    def test_names_on_one_side_alone(self):
        task = task_of("comes\nanswers x y\nwanted always not before x")
        self.assertEqual(all_positions(task), [
            ((False,), True, True), ((True,), True, True), ((False,), True, False), ((True,), True, False),
        ])
        task = task_of("comes a\nanswers\ngiven always before a")
        self.assertEqual(all_positions(task), [
            ((False,), True, True), ((False,), False, True), ((True,), False, True),
        ])

    def test_a_first_position_to_which_no_turn_leads(self):
        for names in ("comes a\nanswers", "comes\nanswers", "comes\nanswers x y"):
            task = task_of(names + "\nwanted again before yes")
            self.assertEqual(all_positions(task), [((False,), True, True), ((True,), True, True)])

    def test_the_most(self):
        task = (
            (("a", "b", "c"), ("x", "y", "z")),
            tuple(("wanted", "again", ("before", ("sign", name))) for name in "abcxyz")
            + (("given", "always", YES), ("given", "always", ("or", A, X))),
        )
        told = all_positions(task)
        # GIVEN stands at first, and behind turns at which a or x is so.
        self.assertEqual(len(told), 64 + 48 + 1)
        self.assertEqual(len(set(told)), len(told))

    def test_each_once_in_order_none_left_out(self):
        numbers = Numbers(22)
        for _ in range(120):
            task = some_task(numbers, BOARD, numbers.below(5), 4)
            if len(looks_of(task)) <= 6:
                self.assertEqual(all_positions(task), plainly_all(task), task)

    def test_the_list_is_the_askers_own(self):
        task = task_by("given again before a")
        told = all_positions(task)
        told.append(None)
        told[0] = None
        self.assertEqual(all_positions(task), [((False,), True, True), ((True,), True, True)])


def plainly_all(task):
    """All positions, one move after the other."""
    found = [first_position(task)]
    for position in found:
        for turn in all_turns(task[0]):
            behind = moved(task, position, turn)[0]
            if behind not in found:
                found.append(behind)
    return found


class Kept(unittest.TestCase):
    def check(self, task, loop):
        stem, again = loop
        position = positions_along(task, stem)[-1]
        seen = []
        while position not in seen:
            seen.append(position)
            for turn in again:
                position = moved(task, position, turn)[0]
        given = set()
        wanted = set()
        first = position
        while True:
            for turn in again:
                position, met, other = moved(task, position, turn)
                given.update(met)
                wanted.update(other)
            if position == first:
                break
        some_not = given != set(range(len(goals_of(task, "given"))))
        all_are = wanted == set(range(len(goals_of(task, "wanted"))))
        self.assertIs(is_kept(task, loop), some_not or all_are, (task, loop))
        return (some_not, all_are)

    def test_goals_met_along_loops(self):
        numbers = Numbers(23)
        cases = set()
        for _ in range(500):
            task = some_task(numbers, BOARD, numbers.below(6), 4)
            turns = [numbers.one_of(all_turns(BOARD)) for _ in range(8)]
            loop = (tuple(turns[:numbers.below(4)]), tuple(turns[4:5 + numbers.below(4)]))
            cases.add(self.check(task, loop))
        self.assertEqual(len(cases), 4)

    def test_each_kind_of_row(self):
        for rows in (
            (), ("given always a",), ("given again a",), ("wanted always a",), ("wanted again a",),
            ("given always before yes",), ("given again not a", "wanted again a and before a"),
        ):
            for loop in (((), ((0, 0),)), ((), ((1, 0),)), (((0, 0),), ((1, 0),)), ((), ((1, 1), (0, 0)))):
                self.check(task_by(*rows), loop)


if __name__ == "__main__":
    unittest.main()
