"""L5: rows and tasks; L6: their names told otherwise."""

import unittest

from things import A, B, C, NO, X, Y, YES, Numbers, chain, ends_of, left, odd, some_wish, wide
from wishkeep.errors import BadBoard, BadName, BadRow, BadTask, TooGreat
from wishkeep.tasks import (
    always_of, goals_of, is_row, is_task, looks_of, names_of, need_row, need_task, renamed_task,
)

BOARD = (("a", "b"), ("x",))
ROW = ("given", "always", A)
ROWS = (
    ("given", "always", ("or", A, B)),
    ("wanted", "again", ("was", X)),
    ("given", "again", ("not", ("before", B))),
    ("wanted", "always", ("since", A, X)),
)


def of_looks(many):
    """A task with so many unlike looks."""
    return (BOARD, (("wanted", "always", chain("before", many, A)),))


class Rows(unittest.TestCase):
    def good(self, row):
        self.assertIs(is_row(BOARD, row), True, row)
        self.assertIsNone(need_row(BOARD, row))

    def bad(self, thing):
        self.assertIs(is_row(BOARD, thing), False)
        self.assertRaises(BadRow, need_row, BOARD, thing)

    def test_all_four_kinds(self):
        for side in ("given", "wanted"):
            for how in ("always", "again"):
                for wish in (YES, A, ("since", A, ("before", X)), wide(60)):
                    self.good((side, how, wish))

    def test_words_that_are_none(self):
        for word in ("", "Given", "always", "yes", "givens", None, True, 0, b"given", ("given",), ["given"]):
            self.bad((word, "always", A))
        for word in ("", "Always", "given", "never", "again ", None, True, 0, b"again", ("again",), ["again"]):
            self.bad(("given", word, A))
        self.bad(("always", "given", A))

    def test_wishes_that_are_none_of_the_board(self):
        for wish in (C, ("not", Y), "a", ["yes"], ("and", A), None, (), wide(61), chain("not", 20)):
            self.bad(("given", "always", wish))

    def test_other_forms(self):
        for thing in (["given", "always", A], ("given", "always"), ("given", "always", A, A), ("given", A), A, ()):
            self.bad(thing)

    def test_things_of_other_kinds(self):
        for thing in odd():
            self.bad(thing)
            self.bad(("given", "always", thing))
            if not isinstance(thing, str) or thing != "given":
                self.bad((thing, "always", A))
            self.bad(("given", thing, A))


class Tasks(unittest.TestCase):
    def good(self, task):
        self.assertIs(is_task(task), True)
        self.assertIsNone(need_task(task))

    def bad(self, thing):
        self.assertIs(is_task(thing), False)
        self.assertRaises(BadTask, need_task, thing)

    def test_none_to_eight_rows(self):
        for many in range(9):
            self.good((BOARD, (ROW,) * many))
        self.bad((BOARD, (ROW,) * 9))
        self.bad((BOARD, (ROW,) * 30))
        self.good((BOARD, ROWS))
        self.good((((), ()), (("wanted", "again", YES),)))

    def test_forms_that_are_none(self):
        for thing in (
            [BOARD, (ROW,)], (BOARD, [ROW]), (BOARD, (list(ROW),)), (BOARD,), (BOARD, (), ()), (BOARD, ROW), (),
            (BOARD, None), ((ROW,), BOARD), ([("a",), ()], ()), ((("a",), ("a",)), ()), (("a", "x"), ()),
        ):
            self.bad(thing)

    def test_rows_that_are_none(self):
        for row in (("given", "always", C), ("given", "never", A), ("given", "always", ["yes"]), None, (), A):
            self.bad((BOARD, (row,)))
            self.bad((BOARD, (ROW, ROW, row)))

    def test_things_of_other_kinds(self):
        for thing in odd():
            self.bad(thing)
            self.bad((thing, ()))
            self.bad((BOARD, (thing,)))
            self.bad((BOARD, (ROW, thing)))
            self.bad((BOARD, (("given", "always", thing),)))

    def test_however_many_looks(self):
        for many in (0, 1, 6, 7, 19):
            self.assertIs(is_task(of_looks(many)), True)

    def test_too_many_looks(self):
        for many in range(7):
            self.assertIsNone(need_task(of_looks(many)))
        for many in (7, 8, 19):
            self.assertRaises(TooGreat, need_task, of_looks(many))

    def test_like_looks_count_once(self):
        row = ("given", "always", left("and", [chain("before", 6, A)] * 3))
        self.assertIsNone(need_task((BOARD, (row,) * 8)))
        more = ("given", "always", ("was", A))
        self.assertRaises(TooGreat, need_task, (BOARD, (row, more)))
        self.assertRaises(TooGreat, need_task, (BOARD, (more, row)))

    def test_a_bad_task_with_many_looks_is_a_bad_one(self):
        self.assertRaises(BadTask, need_task, (BOARD, of_looks(7)[1] + (("given", "always", C),)))


class Looks(unittest.TestCase):
    def test_none(self):
        self.assertEqual(looks_of((BOARD, ())), ())
        self.assertEqual(looks_of((BOARD, (ROW, ("wanted", "again", ("not", ("or", A, X)))))), ())

    def test_what_is_within_ahead(self):
        inner = ("before", ("not", A))
        self.assertEqual(
            looks_of((BOARD, (("given", "always", ("was", inner)),))), (inner, ("was", inner))
        )

    def test_from_the_left(self):
        wish = ("since", ("was", B), ("and", ("before", A), ("was", A)))
        self.assertEqual(
            looks_of((BOARD, (("given", "always", wish),))), (("was", B), ("before", A), ("was", A), wish)
        )

    def test_row_by_row(self):
        self.assertEqual(
            looks_of((BOARD, ROWS)), (("was", X), ("before", B), ("since", A, X))
        )
        self.assertEqual(
            looks_of((BOARD, ROWS[::-1])), (("since", A, X), ("before", B), ("was", X))
        )

    def test_unlike_ones_alone(self):
        rows = (
            ("wanted", "always", ("and", ("was", A), ("was", A))),
            ("given", "again", ("before", ("was", A))),
            ("given", "always", ("or", ("before", ("was", A)), ("was", B))),
        )
        self.assertEqual(looks_of((BOARD, rows)), (("was", A), ("before", ("was", A)), ("was", B)))

    def test_more_than_six(self):
        self.assertEqual(looks_of(of_looks(9)), tuple(chain("before", many, A) for many in range(1, 10)))

    def test_by_the_words_of_the_document(self):
        numbers = Numbers(5)
        for _ in range(100):
            rows = tuple(
                ("given", "again", some_wish(numbers, ("a", "b", "x"), 5)) for _ in range(numbers.below(5))
            )
            found = []
            for row in rows:
                for part in ends_of(row[2]):
                    if part[0] in ("before", "was", "since") and part not in found:
                        found.append(part)
            self.assertEqual(looks_of((BOARD, rows)), tuple(found))


class Sides(unittest.TestCase):
    def test_each_side(self):
        task = (BOARD, ROWS + (("given", "always", NO), ("wanted", "again", A), ("wanted", "again", A)))
        self.assertEqual(always_of(task, "given"), (("or", A, B), NO))
        self.assertEqual(always_of(task, "wanted"), (("since", A, X),))
        self.assertEqual(goals_of(task, "given"), (("not", ("before", B)),))
        self.assertEqual(goals_of(task, "wanted"), (("was", X), A, A))

    def test_of_no_such_row(self):
        task = (BOARD, ())
        for side in ("given", "wanted"):
            self.assertEqual(always_of(task, side), ())
            self.assertEqual(goals_of(task, side), (("yes",),))
        one = (BOARD, (("given", "again", A), ("wanted", "always", B)))
        self.assertEqual(goals_of(one, "wanted"), (("yes",),))
        self.assertEqual(always_of(one, "given"), ())

    def test_names_of(self):
        self.assertEqual(names_of((BOARD, ())), ())
        self.assertEqual(names_of((BOARD, ROWS)), ("a", "b", "x"))
        self.assertEqual(names_of((BOARD, ROWS[2:3])), ("b",))
        board = (("z", "b"), ("ab", "a"))
        rows = (("given", "always", ("and", ("sign", "z"), ("sign", "b"))), ("wanted", "again", ("sign", "ab")))
        self.assertEqual(names_of((board, rows)), ("ab", "b", "z"))


class Renamed(unittest.TestCase):
    def test_board_and_rows(self):
        told = renamed_task((BOARD, ROWS), (("a", "door"), ("x", "bell")))
        door, bell = ("sign", "door"), ("sign", "bell")
        self.assertEqual(told, (
            (("door", "b"), ("bell",)),
            (
                ("given", "always", ("or", door, B)),
                ("wanted", "again", ("was", bell)),
                ("given", "again", ("not", ("before", B))),
                ("wanted", "always", ("since", door, bell)),
            ),
        ))
        self.assertIsNone(need_task(told))

    def test_names_exchanged(self):
        told = renamed_task((BOARD, ROWS[:1]), (("a", "b"), ("b", "a")))
        self.assertEqual(told, ((("b", "a"), ("x",)), (("given", "always", ("or", B, A)),)))
        told = renamed_task((BOARD, ROWS[3:]), (("a", "x"), ("x", "a")))
        self.assertEqual(told, ((("x", "b"), ("a",)), (("wanted", "always", ("since", X, A)),)))

    def test_others_stay(self):
        self.assertEqual(renamed_task((BOARD, ROWS), (("y", "z"),)), (BOARD, ROWS))
        self.assertEqual(renamed_task((BOARD, ROWS), ()), (BOARD, ROWS))
        self.assertEqual(renamed_task((BOARD, ROWS), (("y", "a"),)), (BOARD, ROWS))

    def test_two_names_would_be_one(self):
        for pairs in ((("a", "b"),), (("a", "x"),), (("x", "b"),), (("a", "b"), ("b", "x"))):
            self.assertRaises(BadBoard, renamed_task, (BOARD, ROWS), pairs)
        # Also where no row has these names.
        self.assertRaises(BadBoard, renamed_task, (BOARD, ()), (("a", "b"),))

    def test_no_pairs(self):
        wrong = [[("a", "c")], (("a", "c"), ("a", "d")), (("a", "c"), ("b", "c")), (("a", "yes"),), {"a": "b"}, None]
        for pairs in wrong + odd():
            self.assertRaises(BadName, renamed_task, (BOARD, ROWS), pairs)

    def test_no_pairs_comes_first(self):
        self.assertRaises(BadName, renamed_task, (BOARD, ROWS), (("a", "b"), ("c", "b")))
        self.assertRaises(BadName, renamed_task, (BOARD, ROWS), (["a", "b"],))


if __name__ == "__main__":
    unittest.main()
