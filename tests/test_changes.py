"""Tasks told together, and without some of their rows."""

import unittest

from things import A, B, NO, X, YES, chain, odd, wrong_numbers
from wishkeep.changes import together, without
from wishkeep.errors import BadBoard, BadNumber, BadTask, TooGreat

BOARD = (("a", "b"), ("x",))
P = ("given", "always", A)
Q = ("wanted", "again", ("before", B))
R = ("wanted", "always", ("or", X, ("not", A)))
S = ("given", "again", X)
TOO_MANY_LOOKS = (BOARD, (("wanted", "always", chain("before", 7, A)),))


def of_rows(*rows):
    """A task of the board."""
    return (BOARD, rows)


def unlike_rows(many):
    """So many rows, all unlike."""
    wishes = (YES, NO, A, B, X, ("not", A), ("not", B), ("not", X))
    return tuple(("wanted", "always", wish) for wish in wishes)[:many]


class Together(unittest.TestCase):
    def test_one_behind_the_other(self):
        self.assertEqual(together(of_rows(P, Q), of_rows(R, S)), of_rows(P, Q, R, S))
        self.assertEqual(together(of_rows(S), of_rows(R, Q, P)), of_rows(S, R, Q, P))

    def test_no_rows(self):
        self.assertEqual(together(of_rows(), of_rows()), of_rows())
        self.assertEqual(together(of_rows(P), of_rows()), of_rows(P))
        self.assertEqual(together(of_rows(), of_rows(P, Q)), of_rows(P, Q))

    def test_rows_that_the_one_has(self):
        self.assertEqual(together(of_rows(P, Q), of_rows(Q, R, P, S)), of_rows(P, Q, R, S))
        self.assertEqual(together(of_rows(P, Q), of_rows(Q, P)), of_rows(P, Q))

    def test_rows_that_the_other_one_has_twice(self):
        self.assertEqual(together(of_rows(P), of_rows(R, Q, R, R, Q)), of_rows(P, R, Q))
        self.assertEqual(together(of_rows(), of_rows(P, P)), of_rows(P))

    def test_rows_that_the_one_has_twice_stay(self):
        self.assertEqual(together(of_rows(P, Q, P), of_rows(P, R)), of_rows(P, Q, P, R))
        self.assertEqual(together(of_rows(P, P), of_rows()), of_rows(P, P))

    def test_rows_that_are_almost_the_same(self):
        for row in (("wanted", "always", A), ("given", "again", A), ("given", "always", B)):
            self.assertEqual(together(of_rows(P), of_rows(row)), of_rows(P, row))

    def test_eight_rows_and_nine(self):
        rows = unlike_rows(8)
        self.assertEqual(together((BOARD, rows[:5]), (BOARD, rows[5:])), (BOARD, rows))
        self.assertEqual(together((BOARD, rows), (BOARD, rows)), (BOARD, rows))
        self.assertRaises(TooGreat, together, (BOARD, rows), of_rows(P))
        self.assertRaises(TooGreat, together, (BOARD, rows[:7]), of_rows(P, Q))
        self.assertEqual(together((BOARD, (P,) * 8), (BOARD, (P,) * 8)), (BOARD, (P,) * 8))
        self.assertRaises(TooGreat, together, (BOARD, (P,) * 8), of_rows(Q))

    def test_six_looks_and_seven(self):
        three = of_rows(("wanted", "always", chain("before", 3, A)))
        other = of_rows(("wanted", "again", chain("was", 3, A)))
        self.assertEqual(together(three, other), (BOARD, three[1] + other[1]))
        self.assertRaises(TooGreat, together, three, of_rows(("wanted", "again", chain("was", 4, A))))
        six = of_rows(("wanted", "always", chain("before", 6, A)))
        self.assertEqual(together(six, three), (BOARD, six[1] + three[1]))
        self.assertEqual(together(six, six), six)
        self.assertRaises(TooGreat, together, six, of_rows(("given", "always", ("was", A))))

    def test_another_board(self):
        for board in (((), ()), (("a",), ("x",)), (("b", "a"), ("x",)), (("a", "b"), ("y",)), (("x",), ("a", "b"))):
            self.assertRaises(BadBoard, together, of_rows(), (board, ()))
            self.assertRaises(BadBoard, together, (board, ()), of_rows(P))

    def test_bad_tasks(self):
        for thing in odd() + [BOARD, (BOARD, [P]), (BOARD, (P,) * 9), of_rows(("given", "always", ("sign", "c")))]:
            self.assertRaises(BadTask, together, thing, of_rows())
            self.assertRaises(BadTask, together, of_rows(P), thing)
            self.assertRaises(BadTask, together, thing, thing)

    def test_too_many_looks(self):
        self.assertRaises(TooGreat, together, TOO_MANY_LOOKS, of_rows())
        self.assertRaises(TooGreat, together, of_rows(), TOO_MANY_LOOKS)

    def test_what_is_told_first(self):
        rows = (BOARD, unlike_rows(8))
        elsewhere = (((), ()), ())
        # The one, as need_task has it; then the other one; then another board; then the greatness of both.
        self.assertRaises(BadTask, together, None, TOO_MANY_LOOKS)
        self.assertRaises(TooGreat, together, TOO_MANY_LOOKS, None)
        self.assertRaises(BadTask, together, elsewhere, None)
        far = (((), ()), (("wanted", "always", chain("before", 7, YES)),))
        self.assertRaises(TooGreat, together, rows, far)
        self.assertRaises(TooGreat, together, far, rows)
        great = (((), ()), tuple(("wanted", "always", chain("not", k)) for k in range(8)))
        self.assertRaises(BadBoard, together, rows, great)
        six = (((), ()), (("wanted", "always", chain("before", 6, YES)),))
        self.assertRaises(BadBoard, together, of_rows(("given", "again", chain("was", 6, A))), six)

    def test_both_stay(self):
        one = of_rows(P, Q)
        other = of_rows(Q, R)
        together(one, other)
        self.assertEqual((one, other), (of_rows(P, Q), of_rows(Q, R)))


class Without(unittest.TestCase):
    def test_none_one_all(self):
        task = of_rows(P, Q, R, S)
        self.assertEqual(without(task, ()), task)
        self.assertEqual(without(task, (0,)), of_rows(Q, R, S))
        self.assertEqual(without(task, (3,)), of_rows(P, Q, R))
        self.assertEqual(without(task, (1, 2)), of_rows(P, S))
        self.assertEqual(without(task, (0, 1, 2, 3)), of_rows())
        self.assertEqual(without(of_rows(), ()), of_rows())

    def test_places_not_rows(self):
        self.assertEqual(without(of_rows(P, P, Q, P), (1,)), of_rows(P, Q, P))
        self.assertEqual(without((BOARD, unlike_rows(8)), (0, 2, 4, 6)), (BOARD, unlike_rows(8)[1::2]))

    def test_no_places(self):
        task = of_rows(P, Q, R, S)
        for places in (
            [0], [], (0, 0), (1, 0), (0, 2, 1), (0, 1, 1), (4,), (0, 4), (-1,), (-1, 0), (True,), (0, True), (False,),
            (False, 1), (0, 1, 2, 3, 4), 0, None, "", "0", ((0,),), (None,), ("0",), {0: 0}, {0}, range(1), (0.0,),
        ):
            self.assertRaises(BadNumber, without, task, places)
        for thing in odd():
            self.assertRaises(BadNumber, without, task, thing)
        for thing in wrong_numbers(4) + odd():
            self.assertRaises(BadNumber, without, task, (thing,))
        self.assertRaises(BadNumber, without, of_rows(), (0,))

    def test_bad_tasks(self):
        for thing in odd() + [BOARD, (BOARD, [P]), (BOARD, (P,) * 9)]:
            self.assertRaises(BadTask, without, thing, (0,))
            self.assertRaises(BadTask, without, thing, None)

    def test_too_many_looks(self):
        # Also where the rows that are left would do.
        self.assertRaises(TooGreat, without, TOO_MANY_LOOKS, (0,))
        self.assertRaises(TooGreat, without, TOO_MANY_LOOKS, (1,))
        self.assertRaises(TooGreat, without, TOO_MANY_LOOKS, None)

    def test_the_task_stays(self):
        task = of_rows(P, Q)
        without(task, (0,))
        self.assertEqual(task, of_rows(P, Q))


if __name__ == "__main__":
    unittest.main()
