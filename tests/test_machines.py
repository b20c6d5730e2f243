"""R1: machines; R2: runs of letters that come, and loops; R3: rooms that are come to."""

import unittest
from itertools import product

from things import Numbers, odd, some_letters, some_machine, wrong_cycles, wrong_numbers, wrong_runs
from wishkeep.boards import is_loop, lean, turn_at
from wishkeep.errors import BadMachine, BadRun, TooGreat
from wishkeep.machines import goes, is_machine, loop_by, need_machine, room_behind, rooms_of, turns_of

BOARD = (("a",), ("x",))
WIDE = (("a", "b", "c"), ("x", "y", "z"))
NONE_COMES = ((), ("x", "y"))
NONE_ANSWERED = (("a", "b"), ())
NAMELESS = ((), ())
# It answers 1 to the second 1 that comes, then begins anew.
SECOND = (((0, 0), (0, 1)), ((0, 1), (1, 0)))


def ring(marks):
    """A machine that gives these answers one after the other, over and over, whichever of two letters comes."""
    many = len(marks)
    return tuple(((mark, (k + 1) % many),) * 2 for k, mark in enumerate(marks))


def path(marks):
    """A machine that gives these answers one after the other, then the last one for ever."""
    last = len(marks) - 1
    return tuple(((mark, min(k + 1, last)),) * 2 for k, mark in enumerate(marks))


class Machines(unittest.TestCase):
    def good(self, board, machine):
        self.assertIs(is_machine(board, machine), True)
        self.assertIsNone(need_machine(board, machine))

    def bad(self, board, thing):
        self.assertIs(is_machine(board, thing), False)
        self.assertRaises(BadMachine, need_machine, board, thing)

    def test_how_many_rooms(self):
        room = ((0, 0), (1, 0))
        self.good(BOARD, (room,))
        self.good(BOARD, (room,) * 2)
        self.good(BOARD, (room,) * 4096)
        self.bad(BOARD, (room,) * 4097)
        self.bad(BOARD, ())

    def test_one_pair_for_each_letter(self):
        for board, pairs in ((BOARD, 2), (WIDE, 8), (NONE_COMES, 1), (NONE_ANSWERED, 4), (NAMELESS, 1)):
            for many in range(10):
                room = ((0, 0),) * many
                if many == pairs:
                    self.good(board, (room,))
                    self.good(board, (room, room))
                else:
                    self.bad(board, (room,))
                    self.bad(board, (((0, 0),) * pairs, room))

    def test_rooms_that_are_there(self):
        self.good(BOARD, (((0, 1), (0, 2)), ((0, 0), (0, 1)), ((0, 2), (0, 2))))
        for room in wrong_numbers(3):
            for at in range(3):
                rooms = [((0, 1), (0, 2)), ((0, 0), (0, 1)), ((0, 2), (0, 2))]
                rooms[at] = (rooms[at][0], (0, room))
                self.bad(BOARD, tuple(rooms))
        self.bad(BOARD, (((0, 0), (0, 1)),))

    def test_letters(self):
        for board, answers, pairs in ((BOARD, 2, 2), (WIDE, 8, 8), (NONE_COMES, 4, 1), (NONE_ANSWERED, 1, 4)):
            for letter in range(answers):
                self.good(board, (((0, 0),) * (pairs - 1) + ((letter, 0),),))
            for letter in wrong_numbers(answers):
                self.bad(board, (((0, 0),) * (pairs - 1) + ((letter, 0),),))

    def test_lists_for_tuples_and_other_forms(self):
        for thing in (
            [((0, 0), (0, 0))], ([(0, 0), (0, 0)],), (([0, 0], (0, 0)),), (((0, 0), (0,)),), (((0, 0), (0, 0, 0)),),
            ((0, 0), (0, 0)), (((0, 0), 0),), (((0, 0), ()),), {0: ((0, 0), (0, 0))}, ({0: (0, 0), 1: (0, 0)},), "00",
            ("00",), (("00", "00"),), (None,),
        ):
            self.bad(BOARD, thing)

    def test_things_of_other_kinds(self):
        for thing in odd():
            self.bad(BOARD, thing)
            self.bad(BOARD, (thing,))
            self.bad(BOARD, ((thing, thing),))
            self.bad(BOARD, (((0, 0), thing),))
            self.bad(BOARD, (((0, 0), (thing, 0)),))
            self.bad(BOARD, (((0, 0), (0, thing)),))
            if not isinstance(thing, tuple) or thing != (((),),):
                self.bad(NAMELESS, thing)

    def test_another_board(self):
        self.good(BOARD, SECOND)
        for board in (WIDE, NONE_COMES, NONE_ANSWERED, NAMELESS):
            self.bad(board, SECOND)

    def test_some(self):
        numbers = Numbers(30)
        for board in (BOARD, WIDE, NONE_COMES, NONE_ANSWERED, NAMELESS):
            for many in range(1, 6):
                self.good(board, some_machine(numbers, board, many))


class Runs(unittest.TestCase):
    def test_turns_and_room(self):
        self.assertEqual(turns_of(SECOND, ()), ())
        self.assertEqual(turns_of(SECOND, (1,)), ((1, 0),))
        self.assertEqual(turns_of(SECOND, (1, 0, 0, 1, 1, 1, 0)), (
            (1, 0), (0, 0), (0, 0), (1, 1), (1, 0), (1, 1), (0, 0),
        ))
        self.assertEqual([room_behind(SECOND, run) for run in ((), (0,), (1,), (1, 0), (1, 1), (0, 1, 0))],
                         [0, 0, 1, 1, 0, 1])

    def test_one_letter_alone(self):
        self.assertEqual(turns_of((((2, 1),), ((3, 0),)), (0, 0, 0)), ((0, 2), (0, 3), (0, 2)))

    def test_the_longest(self):
        run = (1, 0, 1) * 3333 + (1,)
        self.assertEqual(len(run), 10000)
        told = turns_of(SECOND, run)
        self.assertIsInstance(told, tuple)
        self.assertEqual(tuple(came for came, _ in told), run)
        self.assertEqual(sum(answered for _, answered in told), 3333)
        self.assertEqual(room_behind(SECOND, run), 1)
        self.assertRaises(BadRun, turns_of, SECOND, run + (0,))
        self.assertRaises(BadRun, room_behind, SECOND, run + (0,))

    def test_letters_of_the_machine(self):
        self.assertEqual(turns_of((((0, 0),) * 8,), (7,)), ((7, 0),))
        for many in (1, 2, 4, 8):
            for letter in wrong_numbers(many):
                self.assertRaises(BadRun, turns_of, (((0, 0),) * many,), (0, letter))
                self.assertRaises(BadRun, room_behind, (((0, 0),) * many,), (0, letter))

    def test_no_runs(self):
        for thing in wrong_runs():
            self.assertRaises(BadRun, turns_of, SECOND, thing)
            self.assertRaises(BadRun, room_behind, SECOND, thing)


class Cycles(unittest.TestCase):
    def test_loops(self):
        self.assertEqual(loop_by(SECOND, ((), (0,))), ((), ((0, 0),)))
        self.assertEqual(loop_by(SECOND, ((), (1,))), ((), ((1, 0), (1, 1))))
        self.assertEqual(loop_by(SECOND, ((1,), (0,))), (((1, 0),), ((0, 0),)))
        self.assertEqual(loop_by(SECOND, ((1, 1), (0,))), (((1, 0), (1, 1)), ((0, 0),)))
        self.assertEqual(loop_by(SECOND, ((0,), (1,))), (((0, 0),), ((1, 0), (1, 1))))
        self.assertEqual(loop_by(SECOND, ((), (0, 1))), ((), ((0, 0), (1, 0), (0, 0), (1, 1))))

    def test_lean(self):
        self.assertEqual(loop_by(SECOND, ((0, 0, 0), (0, 0))), ((), ((0, 0),)))
        self.assertEqual(loop_by(SECOND, ((1, 1, 1), (1, 1, 1))), ((), ((1, 0), (1, 1))))
        self.assertEqual(loop_by(SECOND, ((0, 1), (0, 1))), ((), ((0, 0), (1, 0), (0, 0), (1, 1))))
        self.assertEqual(loop_by(path((0,) * 1000), ((0,) * 7, (0,) * 200)), ((), ((0, 0),)))
        self.assertEqual(loop_by(ring((0, 1) * 1000), ((1,), (0,))), (((1, 0),), ((0, 1), (0, 0))))

    def test_stem_and_round_of_the_cycle(self):
        zeros = ring((0,))
        for stem, again in ((0, 1), (200, 1), (0, 200), (200, 200), (1, 199)):
            self.assertEqual(loop_by(zeros, ((0,) * stem, (0,) * again)), ((), ((0, 0),)))
        for stem, again in ((201, 1), (0, 201), (0, 0), (200, 0), (201, 201)):
            self.assertRaises(BadRun, loop_by, zeros, ((0,) * stem, (0,) * again))
        self.assertEqual(loop_by(zeros, ((1,) * 200, (0,))), (((1, 0),) * 200, ((0, 0),)))
        letters = (0,) * 199 + (1,)
        self.assertEqual(loop_by(zeros, ((), letters)), ((), ((0, 0),) * 199 + ((1, 0),)))

    def test_too_great_a_stem(self):
        for many in (1, 199, 200):
            told = loop_by(path((0,) * (many - 1) + (1, 0)), ((), (0,)))
            self.assertEqual(told, (((0, 0),) * (many - 1) + ((0, 1),), ((0, 0),)))
        for many in (201, 202, 1000, 4095):
            self.assertRaises(TooGreat, loop_by, path((0,) * (many - 1) + (1, 0)), ((), (0,)))
        self.assertEqual(len(loop_by(path((0,) * 200 + (1,)), ((), (0,)))[0]), 200)
        self.assertRaises(TooGreat, loop_by, path((0,) * 201 + (1,)), ((), (0,)))

    def test_too_great_a_round(self):
        for many in (2, 199, 200):
            told = loop_by(ring((0,) * (many - 1) + (1,)), ((), (0,)))
            self.assertEqual(told, ((), ((0, 0),) * (many - 1) + ((0, 1),)))
        for many in (201, 202, 4096):
            self.assertRaises(TooGreat, loop_by, ring((0,) * (many - 1) + (1,)), ((), (0,)))
        self.assertEqual(len(loop_by(ring((0,) * 39 + (1,)), ((), (0, 0, 0, 0, 1)))[1]), 40)
        self.assertEqual(len(loop_by(ring((0,) * 39 + (1,)), ((), (0, 0, 1)))[1]), 120)
        self.assertEqual(len(loop_by(ring((0,) * 7 + (1,)), ((), (0,) * 24 + (1,)))[1]), 200)
        self.assertRaises(TooGreat, loop_by, ring((0,) * 66 + (1,)), ((), (0, 0, 0, 1)))

    def test_rounds_that_are_told_often(self):
        # 4,096 rooms and rounds of 200 letters, and yet a round of two turns.
        self.assertEqual(loop_by(ring((0, 1) * 2048), ((), (1,) * 200)), ((), ((1, 0), (1, 1))))
        self.assertRaises(TooGreat, loop_by, ring((0,) * 4095 + (1,)), ((), (1,) * 199))

    def test_no_cycles(self):
        great = ring((0,) * 300 + (1,))
        for thing in wrong_cycles():
            self.assertRaises(BadRun, loop_by, SECOND, thing)
            # BadRun is told ahead of TooGreat.
            self.assertRaises(BadRun, loop_by, great, thing)
        self.assertRaises(TooGreat, loop_by, great, ((), (0,)))

    def test_by_going_along(self):
        numbers = Numbers(31)
        for _ in range(200):
            machine = some_machine(numbers, WIDE, 1 + numbers.below(6))
            cycle = (some_letters(numbers, 8, numbers.below(5)), some_letters(numbers, 8, 1 + numbers.below(4)))
            told = loop_by(machine, cycle)
            self.assertTrue(is_loop(WIDE, told))
            self.assertEqual(lean(told), told)
            turns = turns_of(machine, cycle[0] + cycle[1] * 30)
            self.assertEqual(tuple(turn_at(told, moment) for moment in range(len(turns))), turns)
            self.assertIs(goes(machine, told), True)


class Goes(unittest.TestCase):
    def test_of_two_rooms(self):
        self.assertIs(goes(SECOND, ((), ((0, 0),))), True)
        self.assertIs(goes(SECOND, ((), ((0, 1),))), False)
        self.assertIs(goes(SECOND, ((), ((1, 0), (1, 1)))), True)
        self.assertIs(goes(SECOND, (((1, 0), (1, 1)), ((1, 0), (1, 1)))), True)
        self.assertIs(goes(SECOND, (((1, 0),), ((1, 1), (1, 0)))), True)
        self.assertIs(goes(SECOND, (((1, 0),), ((1, 0), (1, 1)))), False)
        self.assertIs(goes(SECOND, (((1, 1),), ((0, 0),))), False)

    def test_a_stem_that_leaves_it(self):
        turns = turns_of(SECOND, (1, 0, 1, 1, 0))
        self.assertIs(goes(SECOND, (turns, ((0, 0),))), True)
        for k in range(5):
            wrong = turns[:k] + ((turns[k][0], 1 - turns[k][1]),) + turns[k + 1:]
            self.assertIs(goes(SECOND, (wrong, ((0, 0),))), False)

    def test_more_than_once_round_the_machine(self):
        machine = ring((0, 0, 1))
        once = ((0, 0), (1, 0), (0, 1))
        self.assertIs(goes(machine, ((), once)), True)
        self.assertIs(goes(machine, ((), once * 5)), True)
        self.assertIs(goes(machine, (once[:2], once[2:] + once[:2])), True)
        self.assertIs(goes(machine, (once * 60, once * 60)), True)

    def test_more_than_once_round_the_loop(self):
        # The loop's round has one turn, the machine goes through three rooms along it.
        machine = path((0, 0, 0))
        self.assertIs(goes(machine, ((), ((1, 0),))), True)
        machine = path((0, 1, 1))
        self.assertIs(goes(machine, ((), ((1, 0),))), False)
        self.assertIs(goes(machine, (((1, 0),), ((0, 1), (1, 1)))), True)

    def test_left_late_in_a_round(self):
        machine = ring((0,) * 100)
        for k in (0, 50, 98, 99):
            turns = ((0, 0),) * k + ((0, 1),) + ((0, 0),) * (99 - k)
            self.assertIs(goes(machine, ((), turns)), False)

    def test_left_in_a_later_round(self):
        self.assertIs(goes(ring((0, 0, 1)), ((), ((0, 0),))), False)
        self.assertIs(goes(ring((0, 0, 1)), ((), ((0, 0), (0, 0)))), False)
        self.assertIs(goes(ring((0, 1, 0)), ((), ((0, 0), (0, 1)))), False)
        for many in (2, 10, 1000, 4096):
            self.assertIs(goes(path((0,) * (many - 1) + (1,)), ((), ((0, 0),))), False)
            self.assertIs(goes(path((0,) * many), ((), ((0, 0),))), True)
        machine = path((0, 1) * 100 + (0, 0))
        self.assertIs(goes(machine, ((), ((0, 0), (0, 1)))), False)
        self.assertIs(goes(machine, (((0, 0), (0, 1)) * 100, ((0, 0),))), True)

    def test_all_small_loops(self):
        numbers = Numbers(32)
        turns = list(product(range(2), range(2)))
        for _ in range(6):
            machine = some_machine(numbers, BOARD, 3)
            for stem in range(2):
                for loop in product(turns, repeat=stem + 3):
                    loop = (loop[:stem], loop[stem:])
                    told = loop_by(machine, tuple(tuple(came for came, _ in part) for part in loop))
                    self.assertIs(goes(machine, loop), told == lean(loop))


class Rooms(unittest.TestCase):
    def test_room_0_alone(self):
        self.assertEqual(rooms_of((((0, 0), (1, 0)),)), (0,))
        self.assertEqual(rooms_of((((0, 0), (1, 0)), ((0, 0), (0, 1)))), (0,))

    def test_by_letters_rising(self):
        self.assertEqual(rooms_of((((0, 2), (0, 1)), ((0, 0), (0, 0)), ((0, 3), (0, 3)), ((0, 0), (0, 0)))),
                         (0, 2, 1, 3))

    def test_shorter_rows_first(self):
        # Room 2 is come to by (1,) and by (0, 0), room 1 by (1, 0), room 3 by (1, 1).
        machine = (((0, 4), (0, 2)), ((0, 0), (0, 0)), ((0, 1), (0, 3)), ((0, 3), (0, 3)), ((0, 2), (0, 4)))
        self.assertEqual(rooms_of(machine), (0, 4, 2, 1, 3))

    def test_rooms_that_are_never_come_to(self):
        machine = (((0, 3), (0, 0)), ((0, 0), (0, 2)), ((0, 1), (0, 3)), ((0, 0), (0, 3)))
        self.assertEqual(rooms_of(machine), (0, 3))

    def test_one_behind_the_other(self):
        self.assertEqual(rooms_of(path((0,) * 4096)), tuple(range(4096)))
        turned = tuple(((0, k - 1),) * 2 for k in range(3000))
        turned = (((0, 2999),) * 2, ((0, 1),) * 2) + turned[2:]
        self.assertEqual(rooms_of(turned), (0,) + tuple(range(2999, 0, -1)))

    def test_in_order_of_the_least_rows(self):
        numbers = Numbers(33)
        for _ in range(100):
            machine = some_machine(numbers, BOARD, 6)
            least = {}
            for length in range(6):
                for run in product(range(2), repeat=length):
                    least.setdefault(room_behind(machine, run), run)
            self.assertEqual(rooms_of(machine), tuple(least))

    def test_stays(self):
        machine = ring((0, 1, 0))
        self.assertEqual(rooms_of(machine), (0, 1, 2))
        self.assertEqual(machine, ring((0, 1, 0)))


if __name__ == "__main__":
    unittest.main()
