"""X1, X3, X4: wishes, tasks, letters, turns and loops written."""

import unittest

from things import A, B, C, NO, X, Y, YES, Numbers, chain, left, odd, right, some_wish, wide
from wishkeep.errors import BadText, BadTask, BadWish, TooGreat
from wishkeep.reading import wish_of
from wishkeep.wishes import deep_of, many_parts
from wishkeep.writing import letter_text, loop_text, task_text, turn_text, wish_text

BOARD = (("a", "b"), ("x",))

# Each word within each other one, on the left and on the right: "of" stands for what has brackets.
WITHIN = (
    ("and", "and", "a and b and c", "a and (b and c)"),
    ("and", "or", "(a or b) and c", "a and (b or c)"),
    ("and", "since", "a since b and c", "a and b since c"),
    ("or", "and", "a and b or c", "a or b and c"),
    ("or", "or", "a or b or c", "a or (b or c)"),
    ("or", "since", "a since b or c", "a or b since c"),
    ("since", "and", "(a and b) since c", "a since (b and c)"),
    ("since", "or", "(a or b) since c", "a since (b or c)"),
    ("since", "since", "(a since b) since c", "a since (b since c)"),
)


class WishTexts(unittest.TestCase):
    def test_words_and_names(self):
        self.assertEqual(wish_text(YES), "yes")
        self.assertEqual(wish_text(NO), "no")
        self.assertEqual(wish_text(A), "a")
        self.assertEqual(wish_text(("sign", "sign")), "sign")
        self.assertEqual(wish_text(("not", A)), "not a")
        self.assertEqual(wish_text(("before", YES)), "before yes")
        self.assertEqual(wish_text(("was", A)), "was a")
        self.assertEqual(wish_text(("and", A, NO)), "a and no")
        self.assertEqual(wish_text(("or", A, B)), "a or b")
        self.assertEqual(wish_text(("since", A, B)), "a since b")

    def test_each_word_within_each_other(self):
        for outer, inner, on_left, on_right in WITHIN:
            self.assertEqual(wish_text((outer, (inner, A, B), C)), on_left)
            self.assertEqual(wish_text((outer, A, (inner, B, C))), on_right)

    def test_words_ahead_of_each_other(self):
        for outer in ("not", "before", "was"):
            for inner in ("not", "before", "was"):
                self.assertEqual(wish_text((outer, (inner, A))), f"{outer} {inner} a")

    def test_words_ahead_and_words_between(self):
        for ahead in ("not", "before", "was"):
            for between in ("and", "or", "since"):
                self.assertEqual(wish_text((ahead, (between, A, B))), f"{ahead} (a {between} b)")
                self.assertEqual(wish_text((between, (ahead, A), B)), f"{ahead} a {between} b")
                self.assertEqual(wish_text((between, A, (ahead, B))), f"a {between} {ahead} b")
                self.assertEqual(
                    wish_text((between, (ahead, (between, A, B)), C)), f"{ahead} (a {between} b) {between} c"
                )

    def test_side_by_side(self):
        for word in ("and", "or"):
            self.assertEqual(wish_text(left(word, [A, B, C, X])), f"a {word} b {word} c {word} x")
            self.assertEqual(wish_text(right(word, [A, B, C, X])), f"a {word} (b {word} (c {word} x))")
            self.assertEqual(wish_text((word, (word, A, B), (word, C, X))), f"a {word} b {word} (c {word} x)")
            self.assertEqual(wish_text((word, A, (word, (word, B, C), X))), f"a {word} (b {word} c {word} x)")

    def test_all_together(self):
        wish = ("or", ("and", ("since", ("not", A), ("was", B)), C), ("and", ("or", A, B), ("since", X, Y)))
        self.assertEqual(wish_text(wish), "not a since was b and c or (a or b) and x since y")
        wish = ("not", ("since", ("since", A, B), ("not", ("and", A, ("or", B, C)))))
        self.assertEqual(wish_text(wish), "not ((a since b) since not (a and (b or c)))")

    def test_brackets_just_where_they_are_wanted(self):
        numbers = Numbers(6)
        for _ in range(300):
            wish = some_wish(numbers, ("a", "b"), 5)
            text = wish_text(wish)
            self.assertEqual(wish_of(text), wish)
            for less in with_less_brackets(text):
                try:
                    self.assertNotEqual(wish_of(less), wish, (text, less))
                except BadText:
                    pass

    def test_the_greatest(self):
        self.assertEqual(wish_text(chain("before", 19, A)), "before " * 19 + "a")
        wish = wide(60)
        self.assertEqual(wish_of(wish_text(wish)), wish)
        self.assertEqual(wish_text(left("and", [A] * 20)), " and ".join(["a"] * 20))
        long = ("sign", "zzzzzz")
        wish = ("since", left("or", [long] * 15), left("or", [long] * 15))
        self.assertEqual((many_parts(wish), deep_of(wish)), (59, 16))
        half = " or ".join(["zzzzzz"] * 15)
        self.assertEqual(wish_text(wish), f"({half}) since ({half})")

    def test_what_is_no_wish(self):
        wrong = [wide(61), chain("not", 20), ["yes"], ("not",), ("and", A), ("sign", "yes"), "a", ("not", ["yes"])]
        for thing in wrong + odd():
            self.assertRaises(BadWish, wish_text, thing)


class TaskTexts(unittest.TestCase):
    def test_the_very_text(self):
        task = (BOARD, (
            ("given", "always", ("or", A, B)),
            ("given", "again", ("before", B)),
            ("wanted", "always", ("not", ("and", A, ("before", X)))),
            ("wanted", "again", ("since", ("not", X), A)),
        ))
        self.assertEqual(task_text(task), "\n".join((
            "comes a b",
            "answers x",
            "given always a or b",
            "given again before b",
            "wanted always not (a and before x)",
            "wanted again not x since a",
        )))

    def test_boards(self):
        for comes in range(4):
            for answers in range(4):
                board = (("c", "a", "b")[:comes], ("z", "x", "y")[:answers])
                first = ("comes", "comes c", "comes c a", "comes c a b")[comes]
                second = ("answers", "answers z", "answers z x", "answers z x y")[answers]
                self.assertEqual(task_text((board, ())), f"{first}\n{second}")

    def test_what_is_no_task(self):
        row = ("given", "always", ("sign", "c"))
        wrong = [(BOARD, []), (BOARD, (row,)), (BOARD, (("given", "always", YES),) * 9), BOARD]
        for thing in wrong + odd():
            self.assertRaises(BadTask, task_text, thing)

    def test_too_many_looks(self):
        self.assertEqual(
            task_text((BOARD, (("given", "always", chain("before", 6, A)),))),
            "comes a b\nanswers x\ngiven always " + "before " * 6 + "a",
        )
        self.assertRaises(TooGreat, task_text, (BOARD, (("given", "always", chain("before", 7, A)),)))


class LoopTexts(unittest.TestCase):
    def test_letters(self):
        names = ("a", "bell", "c")
        told = ["-", "a", "bell", "a+bell", "c", "a+c", "bell+c", "a+bell+c"]
        self.assertEqual([letter_text(names, letter) for letter in range(8)], told)
        self.assertEqual(letter_text((), 0), "-")
        self.assertEqual(letter_text(("z", "a"), 3), "z+a")

    def test_turns(self):
        self.assertEqual(turn_text(BOARD, (0, 0)), "-/-")
        self.assertEqual(turn_text(BOARD, (1, 0)), "a/-")
        self.assertEqual(turn_text(BOARD, (0, 1)), "-/x")
        self.assertEqual(turn_text(BOARD, (3, 1)), "a+b/x")
        self.assertEqual(turn_text(((), ()), (0, 0)), "-/-")

    def test_loops(self):
        self.assertEqual(loop_text(BOARD, ((), ((0, 0),))), "| -/-")
        self.assertEqual(loop_text(BOARD, (((1, 0), (2, 1)), ((3, 0), (0, 1)))), "a/- b/x | a+b/- -/x")

    def test_loops_that_are_not_lean(self):
        self.assertEqual(loop_text(BOARD, (((1, 0),), ((1, 0), (1, 0)))), "a/- | a/- a/-")
        text = loop_text(BOARD, (((1, 0),) * 200, ((2, 1),) * 200))
        self.assertEqual(text, "a/- " * 200 + "|" + " b/x" * 200)


def with_less_brackets(text):
    """The text without one pair of brackets, for each of its pairs."""
    found = []
    opened = []
    for end, sign in enumerate(text):
        if sign == "(":
            opened.append(end)
        elif sign == ")":
            begin = opened.pop()
            found.append(text[:begin] + text[begin + 1:end] + text[end + 1:])
    return found


if __name__ == "__main__":
    unittest.main()
