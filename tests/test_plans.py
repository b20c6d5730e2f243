"""R1: plans; R2: runs of letters that are answered, and loops, of machines and plans together; R3: rooms come to."""

import unittest
from itertools import product

from things import (
    Numbers, odd, some_letters, some_machine, some_plan, wrong_cycles, wrong_numbers, wrong_runs,
)
from wishkeep.boards import is_loop, lean, turn_at
from wishkeep.errors import BadPlan, BadRun, TooGreat
from wishkeep.machines import goes
from wishkeep.plans import goes_by, is_plan, loop_against, loop_of_both, need_plan, plan_rooms, turns_against

BOARD = (("a",), ("x",))
WIDE = (("a", "b", "c"), ("x", "y", "z"))
NONE_COMES = ((), ("x", "y"))
NONE_ANSWERED = (("a", "b"), ())
NAMELESS = ((), ())
# What was answered last comes.
ECHO = ((0, (0, 1)), (1, (0, 1)))
# What came is answered at once; what came last is answered.
COPY = (((0, 0), (1, 0)),)
LATE = (((0, 0), (0, 1)), ((1, 0), (1, 1)))


def ring(marks):
    """A plan by which these letters come, over and over, whichever of two letters is answered."""
    many = len(marks)
    return tuple((mark, ((k + 1) % many,) * 2) for k, mark in enumerate(marks))


def path(marks):
    """A plan by which these letters come, then the last one for ever."""
    last = len(marks) - 1
    return tuple((mark, (min(k + 1, last),) * 2) for k, mark in enumerate(marks))


def machine_ring(marks):
    """A machine that gives these answers over and over."""
    many = len(marks)
    return tuple(((mark, (k + 1) % many),) * 2 for k, mark in enumerate(marks))


class Plans(unittest.TestCase):
    def good(self, board, plan):
        self.assertIs(is_plan(board, plan), True)
        self.assertIsNone(need_plan(board, plan))

    def bad(self, board, thing):
        self.assertIs(is_plan(board, thing), False)
        self.assertRaises(BadPlan, need_plan, board, thing)

    def test_how_many_rooms(self):
        room = (1, (0, 0))
        self.good(BOARD, (room,))
        self.good(BOARD, (room,) * 3)
        self.good(BOARD, (room,) * 4096)
        self.bad(BOARD, (room,) * 4097)
        self.bad(BOARD, ())

    def test_one_room_for_each_letter(self):
        for board, rooms in ((BOARD, 2), (WIDE, 8), (NONE_COMES, 4), (NONE_ANSWERED, 1), (NAMELESS, 1)):
            for many in range(10):
                room = (0, (0,) * many)
                if many == rooms:
                    self.good(board, (room,))
                    self.good(board, (room, room))
                else:
                    self.bad(board, (room,))
                    self.bad(board, ((0, (0,) * rooms), room))

    def test_rooms_that_are_there(self):
        self.good(BOARD, ((0, (1, 2)), (0, (0, 1)), (0, (2, 2))))
        for room in wrong_numbers(3):
            self.bad(BOARD, ((0, (1, room)), (0, (0, 1)), (0, (2, 2))))
            self.bad(BOARD, ((0, (1, 2)), (0, (0, 1)), (0, (room, 2))))

    def test_letters(self):
        for board, comes, rooms in ((BOARD, 2, 2), (WIDE, 8, 8), (NONE_COMES, 1, 4), (NONE_ANSWERED, 4, 1)):
            for letter in range(comes):
                self.good(board, ((letter, (0,) * rooms),))
            for letter in wrong_numbers(comes):
                self.bad(board, ((letter, (0,) * rooms),))
                self.bad(board, ((0, (1,) * rooms), (letter, (0,) * rooms)))

    def test_lists_for_tuples_and_other_forms(self):
        for thing in (
            [(0, (0, 0))], ([0, (0, 0)],), ((0, [0, 0]),), ((0,),), ((0, (0, 0), 0),), (0, (0, 0)), ((0, 0, 0),),
            (((0, 0), 0),), (((0, 0), (0, 0)),), {0: (0, (0, 0))}, ((0, {0: 0, 1: 0}),), ((0, "00"),), ("00",), (None,),
        ):
            self.bad(BOARD, thing)

    def test_things_of_other_kinds(self):
        for thing in odd():
            self.bad(BOARD, thing)
            self.bad(BOARD, (thing,))
            self.bad(BOARD, ((thing, (0, 0)),))
            self.bad(BOARD, ((0, thing),))
            self.bad(BOARD, ((0, (thing, 0)),))
            self.bad(BOARD, ((0, (0, thing)),))
            self.bad(NAMELESS, thing)

    def test_another_board(self):
        self.good(BOARD, ECHO)
        for board in (WIDE, NONE_COMES, NONE_ANSWERED, NAMELESS):
            self.bad(board, ECHO)

    def test_some(self):
        numbers = Numbers(40)
        for board in (BOARD, WIDE, NONE_COMES, NONE_ANSWERED, NAMELESS):
            for many in range(1, 6):
                self.good(board, some_plan(numbers, board, many))


class Runs(unittest.TestCase):
    def test_turns(self):
        self.assertEqual(turns_against(ECHO, ()), ())
        self.assertEqual(turns_against(ECHO, (1,)), ((0, 1),))
        self.assertEqual(turns_against(ECHO, (1, 1, 0, 0, 1)), ((0, 1), (1, 1), (1, 0), (0, 0), (0, 1)))
        self.assertEqual(turns_against(((3, (1,)), (2, (0,))), (0, 0, 0)), ((3, 0), (2, 0), (3, 0)))

    def test_the_longest(self):
        run = (0, 1) * 5000
        told = turns_against(ECHO, run)
        self.assertIsInstance(told, tuple)
        self.assertEqual(told, ((0, 0), (0, 1)) + ((1, 0), (0, 1)) * 4999)
        self.assertRaises(BadRun, turns_against, ECHO, run + (0,))

    def test_letters_of_the_plan(self):
        self.assertEqual(turns_against(((0, (0,) * 8),), (7,)), ((0, 7),))
        for many in (1, 2, 4, 8):
            for letter in wrong_numbers(many):
                self.assertRaises(BadRun, turns_against, ((0, (0,) * many),), (0, letter))

    def test_no_runs(self):
        for thing in wrong_runs():
            self.assertRaises(BadRun, turns_against, ECHO, thing)


class Cycles(unittest.TestCase):
    def test_loops(self):
        self.assertEqual(loop_against(ECHO, ((), (0,))), ((), ((0, 0),)))
        self.assertEqual(loop_against(ECHO, ((), (1,))), (((0, 1),), ((1, 1),)))
        self.assertEqual(loop_against(ECHO, ((1,), (0,))), (((0, 1), (1, 0)), ((0, 0),)))
        self.assertEqual(loop_against(ECHO, ((), (0, 1))), (((0, 0),), ((0, 1), (1, 0))))

    def test_lean(self):
        self.assertEqual(loop_against(ECHO, ((0, 0), (0, 0, 0))), ((), ((0, 0),)))
        self.assertEqual(loop_against(path((1,) * 1000), ((0,) * 7, (0,) * 200)), ((), ((1, 0),)))
        self.assertEqual(loop_against(ring((0, 1) * 2000), ((), (1,) * 200)), ((), ((0, 1), (1, 1))))

    def test_stem_and_round_of_the_cycle(self):
        for stem, again in ((0, 1), (200, 1), (0, 200), (200, 200)):
            self.assertEqual(loop_against(ECHO, ((0,) * stem, (0,) * again)), ((), ((0, 0),)))
        for stem, again in ((201, 1), (0, 201), (0, 0), (200, 0)):
            self.assertRaises(BadRun, loop_against, ECHO, ((0,) * stem, (0,) * again))

    def test_too_great(self):
        for many in (1, 199, 200):
            told = loop_against(path((0,) * (many - 1) + (1, 0)), ((), (1,)))
            self.assertEqual(told, (((0, 1),) * (many - 1) + ((1, 1),), ((0, 1),)))
            told = loop_against(ring((0,) * (many - 1) + (1,)), ((), (0,)))
            self.assertEqual(told, ((), ((0, 0),) * (many - 1) + ((1, 0),)))
        for many in (201, 1000, 4095):
            self.assertRaises(TooGreat, loop_against, path((0,) * (many - 1) + (1, 0)), ((), (1,)))
            self.assertRaises(TooGreat, loop_against, ring((0,) * (many - 1) + (1,)), ((), (0,)))
        # The stem grows by one turn beyond the cycle's.
        self.assertEqual(len(loop_against(ECHO, ((1,) * 199, (0,)))[0]), 200)
        self.assertRaises(TooGreat, loop_against, ECHO, ((1,) * 200, (0,)))

    def test_no_cycles(self):
        great = ring((0,) * 300 + (1,))
        for thing in wrong_cycles():
            self.assertRaises(BadRun, loop_against, ECHO, thing)
            self.assertRaises(BadRun, loop_against, great, thing)
        self.assertRaises(TooGreat, loop_against, great, ((), (0,)))

    def test_by_going_along(self):
        numbers = Numbers(41)
        for _ in range(200):
            plan = some_plan(numbers, WIDE, 1 + numbers.below(6))
            cycle = (some_letters(numbers, 8, numbers.below(5)), some_letters(numbers, 8, 1 + numbers.below(4)))
            told = loop_against(plan, cycle)
            self.assertTrue(is_loop(WIDE, told))
            self.assertEqual(lean(told), told)
            turns = turns_against(plan, cycle[0] + cycle[1] * 30)
            self.assertEqual(tuple(turn_at(told, moment) for moment in range(len(turns))), turns)
            self.assertIs(goes_by(plan, told), True)


class GoesBy(unittest.TestCase):
    def test_of_two_rooms(self):
        self.assertIs(goes_by(ECHO, ((), ((0, 0),))), True)
        self.assertIs(goes_by(ECHO, ((), ((1, 1),))), False)
        self.assertIs(goes_by(ECHO, (((0, 1),), ((1, 1),))), True)
        self.assertIs(goes_by(ECHO, (((0, 1), (1, 1)), ((1, 1), (1, 1)))), True)
        self.assertIs(goes_by(ECHO, (((0, 1),), ((1, 0), (0, 1)))), True)
        self.assertIs(goes_by(ECHO, ((), ((0, 1), (1, 0)))), True)
        self.assertIs(goes_by(ECHO, ((), ((1, 0), (0, 1)))), False)

    def test_more_than_once_round(self):
        once = ((0, 0), (0, 1), (1, 1))
        plan = ring((0, 0, 1))
        self.assertIs(goes_by(plan, ((), once)), True)
        self.assertIs(goes_by(plan, ((), once * 4)), True)
        self.assertIs(goes_by(plan, (once * 60, once * 60)), True)
        self.assertIs(goes_by(path((0, 0, 0)), ((), ((0, 1),))), True)

    def test_left_late(self):
        plan = ring((0,) * 100)
        for k in (0, 50, 98, 99):
            turns = ((0, 0),) * k + ((1, 0),) + ((0, 0),) * (99 - k)
            self.assertIs(goes_by(plan, ((), turns)), False)
            self.assertIs(goes_by(plan, (turns, ((0, 0),))), False)
        self.assertIs(goes_by(ring((0, 0, 1)), ((), ((0, 0),))), False)
        self.assertIs(goes_by(ring((0, 0, 1)), ((), ((0, 0), (0, 0)))), False)
        for many in (2, 10, 1000, 4096):
            self.assertIs(goes_by(path((0,) * (many - 1) + (1,)), ((), ((0, 0),))), False)

    def test_all_small_loops(self):
        numbers = Numbers(42)
        turns = list(product(range(2), range(2)))
        for _ in range(6):
            plan = some_plan(numbers, BOARD, 3)
            for stem in range(2):
                for loop in product(turns, repeat=stem + 3):
                    loop = (loop[:stem], loop[stem:])
                    told = loop_against(plan, tuple(tuple(answered for _, answered in part) for part in loop))
                    self.assertIs(goes_by(plan, loop), told == lean(loop))


class Rooms(unittest.TestCase):
    def test_in_order(self):
        self.assertEqual(plan_rooms(((0, (0, 0)),)), (0,))
        self.assertEqual(plan_rooms(((0, (2, 1)), (0, (0, 0)), (0, (3, 3)), (1, (0, 0)))), (0, 2, 1, 3))
        self.assertEqual(plan_rooms(((0, (4, 2)), (0, (0, 0)), (0, (1, 3)), (0, (3, 3)), (0, (2, 4)))),
                         (0, 4, 2, 1, 3))

    def test_rooms_that_are_never_come_to(self):
        self.assertEqual(plan_rooms(((0, (3, 0)), (0, (0, 2)), (0, (1, 3)), (0, (0, 3)))), (0, 3))

    def test_one_behind_the_other(self):
        self.assertEqual(plan_rooms(path((0,) * 4096)), tuple(range(4096)))

    def test_in_order_of_the_least_rows(self):
        numbers = Numbers(43)
        for _ in range(60):
            plan = some_plan(numbers, BOARD, 6)
            least = {}
            for length in range(6):
                for run in product(range(2), repeat=length):
                    room = 0
                    for letter in run:
                        room = plan[room][1][letter]
                    least.setdefault(room, run)
            self.assertEqual(plan_rooms(plan), tuple(least))


class Both(unittest.TestCase):
    def test_small_ones(self):
        self.assertEqual(loop_of_both(COPY, ECHO), ((), ((0, 0),)))
        self.assertEqual(loop_of_both(COPY, ring((0, 1, 1))), ((), ((0, 0), (1, 1), (1, 1))))
        self.assertEqual(loop_of_both(LATE, ring((0, 1, 1))), (((0, 0),), ((1, 0), (1, 1), (0, 1))))
        self.assertEqual(loop_of_both(machine_ring((1, 0)), ECHO), ((), ((0, 1), (1, 0))))
        self.assertEqual(loop_of_both((((0, 0),),), ((0, (0,)),)), ((), ((0, 0),)))

    def test_lean(self):
        self.assertEqual(loop_of_both(machine_ring((0, 1) * 30), ring((0, 0, 0, 0))), ((), ((0, 0), (0, 1))))
        self.assertEqual(loop_of_both(machine_ring((0,) * 4096), ring((1,) * 4095)), ((), ((1, 0),)))

    def test_rounds_up_to_200(self):
        for many in (1, 2, 199, 200):
            told = loop_of_both(COPY, ring((1,) + (0,) * (many - 1)))
            self.assertEqual(told, ((), ((1, 1),) + ((0, 0),) * (many - 1)))
        for many in (201, 202, 300, 399, 400, 401, 599, 600, 601, 4096):
            self.assertRaises(TooGreat, loop_of_both, COPY, ring((1,) + (0,) * (many - 1)))
            self.assertRaises(TooGreat, loop_of_both, COPY, ring((0,) * (many - 1) + (1,)))

    def test_rounds_of_both_together(self):
        one = machine_ring((1,) + (0,) * 7)
        self.assertEqual(len(loop_of_both(one, ring((1,) + (0,) * 24))[1]), 200)
        self.assertRaises(TooGreat, loop_of_both, machine_ring((1,) + (0,) * 2), ring((1,) + (0,) * 66))
        self.assertRaises(TooGreat, loop_of_both, machine_ring((1,) + (0,) * 4095), ring((1,) + (0,) * 4094))

    def test_stems_up_to_200(self):
        for many in (1, 2, 199, 200):
            told = loop_of_both(COPY, path((0,) * (many - 1) + (1, 0)))
            self.assertEqual(told, (((0, 0),) * (many - 1) + ((1, 1),), ((0, 0),)))
        for many in (201, 202, 400, 401, 599, 600, 601, 602, 4095):
            self.assertRaises(TooGreat, loop_of_both, COPY, path((0,) * (many - 1) + (1, 0)))

    def test_otherwise_late_and_for_ever(self):
        # For long both go on as a loop that is small enough, and leave it then.
        for many in (201, 600, 601, 1000, 4095):
            self.assertRaises(TooGreat, loop_of_both, COPY, path((0,) * many + (1,)))
            late = tuple(((0, min(k + 1, many)),) * 2 for k in range(many)) + (((1, many),) * 2,)
            self.assertRaises(TooGreat, loop_of_both, late, ring((0,)))

    def test_stem_and_round_of_200(self):
        plan = tuple((1 if k in (199, 399) else 0, (k + 1 if k < 399 else 200,) * 2) for k in range(400))
        self.assertEqual(loop_of_both(COPY, plan), ((), ((0, 0),) * 199 + ((1, 1),)))
        plan = tuple((1 if k in (199, 398) else 0, (k + 1 if k < 399 else 200,) * 2) for k in range(400))
        told = loop_of_both(COPY, plan)
        self.assertEqual((len(told[0]), len(told[1])), (200, 200))

    def test_by_going_along(self):
        numbers = Numbers(44)
        for _ in range(300):
            machine = some_machine(numbers, BOARD, 1 + numbers.below(12))
            plan = some_plan(numbers, BOARD, 1 + numbers.below(12))
            self.assertEqual(loop_of_both(machine, plan), plainly_both(machine, plan))

    def test_it_is_of_both(self):
        numbers = Numbers(45)
        for _ in range(50):
            machine = some_machine(numbers, WIDE, 5)
            plan = some_plan(numbers, WIDE, 5)
            told = loop_of_both(machine, plan)
            self.assertTrue(is_loop(WIDE, told))
            self.assertTrue(goes(machine, told))
            self.assertTrue(goes_by(plan, told))


def plainly_both(machine, plan):
    """The loop that comes of both, by going on until both are in their rooms again."""
    seen = {}
    turns = []
    room = place = 0
    while (room, place) not in seen:
        seen[room, place] = len(turns)
        came, behind = plan[place]
        answered, room = machine[room][came]
        place = behind[answered]
        turns.append((came, answered))
    begin = seen[room, place]
    return lean((tuple(turns[:begin]), tuple(turns[begin:])))


if __name__ == "__main__":
    unittest.main()
