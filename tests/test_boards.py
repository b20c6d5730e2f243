"""L1: boards; L2: letters and turns; L3: loops."""

import unittest

from things import Numbers, deep_things, kinds, odd
from wishkeep.boards import (
    all_turns, are_one, is_board, is_letter, is_loop, is_so, is_turn, lean, letter_of, letters_of, need_board,
    need_letter, need_loop, need_turn, some_of, turn_at,
)
from wishkeep.errors import BadBoard, BadLetter, BadLoop, BadName, BadNumber, BadTurn

BOARD = (("a", "b"), ("x",))
NAMES = ("a", "b", "c")


class Boards(unittest.TestCase):
    def good(self, board):
        self.assertIs(is_board(board), True, board)
        self.assertIsNone(need_board(board))

    def bad(self, thing):
        self.assertIs(is_board(thing), False)
        self.assertRaises(BadBoard, need_board, thing)

    def test_none_to_three_names_on_each_side(self):
        for comes in range(4):
            for answers in range(4):
                self.good((("a", "b", "c")[:comes], ("x", "y", "zzzzzz")[:answers]))

    def test_four_names(self):
        self.bad((("a", "b", "c", "d"), ()))
        self.bad(((), ("a", "b", "c", "d")))

    def test_all_unlike_over_both_sides(self):
        self.bad((("a", "a"), ()))
        self.bad(((), ("x", "y", "x")))
        self.bad((("a",), ("a",)))
        self.bad((("a", "b", "c"), ("x", "y", "c")))

    def test_in_any_order(self):
        self.good((("z", "a"), ("y", "b")))

    def test_names_that_are_none(self):
        for name in ("", "yes", "given", "A", "abcdefg", "a1", None, 1, b"a", ("a",)):
            self.bad(((name,), ()))
            self.bad(((), ("x", name)))

    def test_tuples_and_no_lists(self):
        for thing in ([(), ()], ([], ()), ((), []), (["a"], ()), [["a"], ["x"]], ("a", "x"), ({}, {}), ("abc", ())):
            self.bad(thing)

    def test_other_lengths(self):
        for thing in ((), ((),), ((), (), ()), (("a",), ("x",), ("y",))):
            self.bad(thing)

    def test_things_of_other_kinds(self):
        for thing in odd():
            self.bad(thing)
            self.bad((thing, ()))
            self.bad(((), (thing,)))
            self.bad((("a", thing), ("x",)))


class Letters(unittest.TestCase):
    def test_letters_of(self):
        self.assertEqual([letters_of(NAMES[:many]) for many in range(4)], [1, 2, 4, 8])

    def test_is_letter(self):
        for many in range(4):
            names = NAMES[:many]
            for letter in range(2 ** many):
                self.assertIs(is_letter(names, letter), True)
                self.assertIsNone(need_letter(names, letter))
            for thing in (-1, 2 ** many, 2 ** many + 1, 10 ** 30):
                self.assertIs(is_letter(names, thing), False)
                self.assertRaises(BadLetter, need_letter, names, thing)

    def test_truths_and_other_kinds_are_no_letters(self):
        for thing in kinds() + ["0", "a", (0,), ("a",), (), True, False]:
            self.assertIs(is_letter(NAMES, thing), False)
            self.assertRaises(BadLetter, need_letter, NAMES, thing)
            self.assertRaises(BadLetter, some_of, NAMES, thing)

    def test_letter_of(self):
        self.assertEqual(letter_of(NAMES, ()), 0)
        self.assertEqual(letter_of(NAMES, ("a",)), 1)
        self.assertEqual(letter_of(NAMES, ("b",)), 2)
        self.assertEqual(letter_of(NAMES, ("c",)), 4)
        self.assertEqual(letter_of(NAMES, ("a", "c")), 5)
        self.assertEqual(letter_of(NAMES, ("a", "b", "c")), 7)
        self.assertEqual(letter_of((), ()), 0)
        self.assertEqual(letter_of(("z", "y"), ("y",)), 2)

    def test_letter_of_any_order_and_oftener(self):
        self.assertEqual(letter_of(NAMES, ("c", "a")), 5)
        self.assertEqual(letter_of(NAMES, ("c", "b", "a")), 7)
        self.assertEqual(letter_of(NAMES, ("b", "b")), 2)
        self.assertEqual(letter_of(NAMES, ("c", "a", "c", "c", "a")), 5)

    def test_letter_of_anything_else(self):
        wrong = [["a"], [], "a", "ab", "", {"a": 1}, {"a"}, None, 0, 1, ("d",), ("a", "d"), ("yes",), ("A",), (1,)]
        wrong += [("a", None), ("a", ["b"]), ("a", ("b",)), ("ab",), ("",), (True,), (b"a",)]
        for thing in wrong + odd():
            self.assertRaises(BadLetter, letter_of, NAMES, thing)
        for thing in odd():
            self.assertRaises(BadLetter, letter_of, NAMES, ("a", thing))
        self.assertRaises(BadLetter, letter_of, (), ("a",))

    def test_some_of(self):
        self.assertEqual(some_of(NAMES, 0), ())
        self.assertEqual(some_of(NAMES, 1), ("a",))
        self.assertEqual(some_of(NAMES, 6), ("b", "c"))
        self.assertEqual(some_of(NAMES, 7), NAMES)
        self.assertEqual(some_of(("z", "a"), 3), ("z", "a"))
        self.assertEqual(some_of((), 0), ())

    def test_some_of_refuses(self):
        for many in range(4):
            for letter in (-1, 2 ** many):
                self.assertRaises(BadLetter, some_of, NAMES[:many], letter)

    def test_there_and_back(self):
        for letter in range(8):
            self.assertEqual(letter_of(NAMES, some_of(NAMES, letter)), letter)


class Turns(unittest.TestCase):
    def test_is_turn(self):
        for came in range(4):
            for answered in range(2):
                self.assertIs(is_turn(BOARD, (came, answered)), True)
                self.assertIsNone(need_turn(BOARD, (came, answered)))
        self.assertIs(is_turn(((), ()), (0, 0)), True)

    def test_no_turns(self):
        wrong = [(4, 0), (0, 2), (-1, 0), (0, -1), (0,), (0, 0, 0), (), [0, 0], (True, 0), (0, False), (0, True)]
        wrong += [("0", 0), (0, None), ((0,), 0), "00", (0, (0,)), ((), ()), {0: 0}]
        for thing in wrong + odd():
            self.assertIs(is_turn(BOARD, thing), False)
            self.assertRaises(BadTurn, need_turn, BOARD, thing)
        for thing in odd():
            self.assertIs(is_turn(BOARD, (thing, 0)), False)
            self.assertRaises(BadTurn, need_turn, BOARD, (0, thing))
        self.assertIs(is_turn(((), ()), (1, 0)), False)
        self.assertIs(is_turn(((), ()), (0, 1)), False)

    def test_sides_are_not_exchanged(self):
        self.assertIs(is_turn(BOARD, (3, 1)), True)
        self.assertIs(is_turn(BOARD, (1, 3)), False)

    def test_all_turns_rising(self):
        self.assertEqual(all_turns(BOARD), [(0, 0), (0, 1), (1, 0), (1, 1), (2, 0), (2, 1), (3, 0), (3, 1)])
        self.assertEqual(all_turns(((), ())), [(0, 0)])
        self.assertEqual(all_turns(((), ("x", "y"))), [(0, 0), (0, 1), (0, 2), (0, 3)])
        full = (("a", "b", "c"), ("x", "y", "z"))
        self.assertEqual(all_turns(full), sorted(all_turns(full)))
        self.assertEqual(len(all_turns(full)), 64)

    def test_all_turns_are_the_askers_own(self):
        told = all_turns(BOARD)
        told.clear()
        self.assertEqual(len(all_turns(BOARD)), 8)

    def test_is_so(self):
        self.assertIs(is_so(BOARD, (1, 0), "a"), True)
        self.assertIs(is_so(BOARD, (1, 0), "b"), False)
        self.assertIs(is_so(BOARD, (2, 0), "a"), False)
        self.assertIs(is_so(BOARD, (2, 0), "b"), True)
        self.assertIs(is_so(BOARD, (3, 0), "x"), False)
        self.assertIs(is_so(BOARD, (0, 1), "x"), True)
        board = (("a", "b", "c"), ("x", "y", "z"))
        for came, answered in all_turns(board):
            so = [name for name in "abcxyz" if is_so(board, (came, answered), name)]
            self.assertEqual(so, list(some_of(board[0], came) + some_of(board[1], answered)))

    def test_is_so_of_none_of_the_boards_names(self):
        for name in ["c", "y", "", "ab", "yes", 0, 1, True, ("a",), ["a"], b"a", {"a": 1}] + odd():
            self.assertRaises(BadName, is_so, BOARD, (3, 1), name)
        self.assertRaises(BadName, is_so, ((), ()), (0, 0), "a")


T = (0, 0)
U = (1, 0)
V = (2, 1)
W = (3, 1)


class Loops(unittest.TestCase):
    def good(self, loop):
        self.assertIs(is_loop(BOARD, loop), True)
        self.assertIsNone(need_loop(BOARD, loop))

    def bad(self, thing):
        self.assertIs(is_loop(BOARD, thing), False)
        self.assertRaises(BadLoop, need_loop, BOARD, thing)

    def test_how_many_turns(self):
        self.good(((), (T,)))
        self.good(((U, V), (T, W)))
        self.good(((T,) * 200, (T,)))
        self.good(((), (W,) * 200))
        self.good(((T,) * 200, (U,) * 200))
        self.bad(((T,) * 201, (T,)))
        self.bad(((), (T,) * 201))
        self.bad(((), ()))
        self.bad(((T,), ()))

    def test_turns_that_are_none(self):
        for turn in ((4, 0), (0, 2), (-1, 0), [0, 0], (0,), (0, 0, 0), 0, None, (True, 0), (0, False), "a"):
            self.bad(((turn,), (T,)))
            self.bad(((), (turn,)))
            self.bad(((T, turn), (T,)))
            self.bad(((), (T, T, turn)))

    def test_forms_that_are_none(self):
        for thing in ([(), (T,)], ([], (T,)), ((), [T]), ((T,),), ((), (T,), (T,)), (T, T), (), ((), T), (T, (T,))):
            self.bad(thing)

    def test_things_of_other_kinds(self):
        for thing in odd():
            self.bad(thing)
            self.bad(((), thing))
            self.bad((thing, (T,)))
            self.bad(((), (thing,)))

    def test_of_another_board(self):
        self.assertIs(is_loop(((), ()), ((), (T,))), True)
        self.assertIs(is_loop(((), ()), ((), (U,))), False)

    def test_turn_at(self):
        loop = ((T, U), (V, W, T))
        row = [T, U, V, W, T, V, W, T, V, W, T]
        self.assertEqual([turn_at(loop, moment) for moment in range(11)], row)
        self.assertEqual(turn_at(loop, 2 + 3 * 10 ** 40), V)
        self.assertEqual(turn_at(loop, 3 + 3 * 10 ** 40), W)
        self.assertEqual(turn_at(((), (V,)), 10 ** 9), V)
        self.assertEqual(turn_at(((), (T, U)), 0), T)

    def test_turn_at_no_moment(self):
        wrong = ["0", (0,), (), "a", -1, -2, True, False, None]
        for thing in wrong + kinds():
            self.assertRaises(BadNumber, turn_at, ((T,), (U,)), thing)


class Lean(unittest.TestCase):
    def test_lean_ones_stay(self):
        for loop in (((), (T,)), ((T,), (U,)), ((T, U), (V, W)), ((T,), (U, T, V)), ((U, T), (T, U, U))):
            self.assertEqual(lean(loop), loop)

    def test_a_round_told_more_than_once(self):
        self.assertEqual(lean(((), (T, T))), ((), (T,)))
        self.assertEqual(lean(((), (T, U, T, U))), ((), (T, U)))
        self.assertEqual(lean(((), (T, U, V) * 3)), ((), (T, U, V)))
        self.assertEqual(lean(((W,), (T, U) * 3)), ((W,), (T, U)))
        self.assertEqual(lean(((), (T,) * 200)), ((), (T,)))
        self.assertEqual(lean(((), (T, T, U) * 66)), ((), (T, T, U)))

    def test_almost_told_twice(self):
        for loop in (((), (T, U, T)), ((), (T, U, T, V)), ((), (T, U, T, U, T)), ((), (T, T, T, U))):
            self.assertEqual(lean(loop), loop)

    def test_a_round_turned_on_into_the_stem(self):
        self.assertEqual(lean(((T,), (U, T))), ((), (T, U)))
        self.assertEqual(lean(((V, T), (U, T))), ((V,), (T, U)))
        self.assertEqual(lean(((W, T, U), (V, T, U))), ((W,), (T, U, V)))
        self.assertEqual(lean(((U,), (V, T, U))), ((), (U, V, T)))

    def test_stem_and_round_alike(self):
        self.assertEqual(lean(((T,), (T,))), ((), (T,)))
        self.assertEqual(lean(((T, U), (T, U))), ((), (T, U)))
        self.assertEqual(lean(((T, U, T, U), (T, U))), ((), (T, U)))
        self.assertEqual(lean(((T,) * 200, (T,) * 200)), ((), (T,)))
        self.assertEqual(lean(((U, T, U, T, U), (T, U))), ((), (U, T)))
        self.assertEqual(lean(((W, U, T, U, T, U), (T, U))), ((W,), (U, T)))

    def test_both(self):
        self.assertEqual(lean(((V, T), (U, T) * 4)), ((V,), (T, U)))
        self.assertEqual(lean(((T, U) * 3 + (T,), (U, T) * 2)), ((), (T, U)))

    def test_the_same_row_in_the_fewest_turns(self):
        numbers = Numbers(3)
        for _ in range(300):
            turns = [(numbers.below(2), 0) for _ in range(12)]
            stem = tuple(turns[:numbers.below(6)])
            again = tuple(turns[6:7 + numbers.below(6)])
            told = lean((stem, again))
            row = [turn_at((stem, again), moment) for moment in range(60)]
            self.assertEqual([turn_at(told, moment) for moment in range(60)], row)
            self.assertEqual((len(told[1]), len(told[0])), least_lengths(row))

    def test_are_one(self):
        self.assertIs(are_one(((), (T, U)), ((T, U), (T, U, T, U))), True)
        self.assertIs(are_one(((T,), (U, T)), ((), (T, U))), True)
        self.assertIs(are_one(((), (T,)), ((T,) * 200, (T,) * 200)), True)
        self.assertIs(are_one(((V,), (T,)), ((V,), (T,))), True)

    def test_are_two(self):
        self.assertIs(are_one(((), (T, U)), ((), (U, T))), False)
        self.assertIs(are_one(((), (T,)), ((U,), (T,))), False)
        self.assertIs(are_one(((T, T), (T,)), ((T, U), (T,))), False)
        self.assertIs(are_one(((T,) * 200, (T,)), ((T,) * 199 + (U,), (T,))), False)
        self.assertIs(are_one(((), (T,) * 200), ((), (T,) * 199 + (U,))), False)
        self.assertIs(are_one(((), (T, U, V)), ((), (T, U, W))), False)


def least_lengths(row):
    """The lengths of the shortest round, then stem, of a row that goes on so; both are at most 6 here."""
    for again in range(1, 7):
        for stem in range(7):
            if all(row[k] == row[k + again] for k in range(stem, len(row) - again)):
                return (again, stem)
    return None


class Deep(unittest.TestCase):
    def test_deep_things_in_every_place(self):
        for thing in deep_things():
            self.assertIs(is_board(thing), False)
            self.assertIs(is_letter(NAMES, thing), False)
            self.assertIs(is_turn(BOARD, thing), False)
            self.assertIs(is_loop(BOARD, thing), False)


if __name__ == "__main__":
    unittest.main()
