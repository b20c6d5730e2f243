"""M1: values of wishes; M2: rows that hold, loops that keep a task."""

import unittest

from things import A, B, NO, X, YES, Numbers, chain, odd, some_wish
from wishkeep.boards import all_turns, lean
from wishkeep.errors import BadLoop
from wishkeep.meaning import holds_again, holds_always, is_kept, rows_failed, values_along
from wishkeep.reading import loop_of, wish_of

BOARD = (("a", "b"), ("x",))
SMALL = (("a",), ())


def turns_of(a, b="", x=""):
    """Turns along which a, b and x are so where a figure 1 stands."""
    many = len(a)
    rows = zip(a, b or "0" * many, x or "0" * many)
    return [(int(one) + 2 * int(two), int(three)) for one, two, three in rows]


def along(text, a, b="", x=""):
    """The values of a wish's text, as figures."""
    values = values_along(BOARD, wish_of(text), turns_of(a, b, x))
    for value in values:
        if value is not True and value is not False:
            raise AssertionError(value)
    return "".join("1" if value else "0" for value in values)


class Values(unittest.TestCase):
    def test_words_without_time(self):
        self.assertEqual(along("yes", "0101"), "1111")
        self.assertEqual(along("no", "0101"), "0000")
        self.assertEqual(along("a", "0110", "1010"), "0110")
        self.assertEqual(along("b", "0110", "1010"), "1010")
        self.assertEqual(along("x", "0110", "1010", "0001"), "0001")
        self.assertEqual(along("not a", "0110"), "1001")
        self.assertEqual(along("a and b", "0011", "0101"), "0001")
        self.assertEqual(along("a or b", "0011", "0101"), "0111")

    def test_before(self):
        self.assertEqual(along("before a", "1101001"), "0110100")
        self.assertEqual(along("before a", "1"), "0")
        self.assertEqual(along("before yes", "0000"), "0111")
        self.assertEqual(along("before not a", "0000"), "0111")
        self.assertEqual(along("not before a", "1101"), "1001")
        self.assertEqual(along("before before a", "1101001"), "0011010")
        self.assertEqual(along("before before before yes", "00000"), "00011")

    def test_was(self):
        self.assertEqual(along("was a", "0010010"), "0011111")
        self.assertEqual(along("was a", "1000"), "1111")
        self.assertEqual(along("was a", "0000"), "0000")
        self.assertEqual(along("was a", "0001"), "0001")
        self.assertEqual(along("not was not a", "1101"), "1100")
        self.assertEqual(along("was before a", "0100"), "0011")
        self.assertEqual(along("before was a", "0100"), "0011")

    def test_since(self):
        self.assertEqual(along("a since b", "0111011", "0100000"), "0111000")
        self.assertEqual(along("a since b", "0000000", "0100100"), "0100100")
        self.assertEqual(along("a since b", "1111111", "0001000"), "0001111")
        self.assertEqual(along("a since b", "1111", "0000"), "0000")
        self.assertEqual(along("a since b", "0111", "1000"), "1111")
        self.assertEqual(along("a since b", "1011", "1000"), "1000")
        self.assertEqual(along("a since b", "1011", "1010"), "1011")
        self.assertEqual(along("b since a", "1000", "0110"), "1110")

    def test_within_one_another(self):
        self.assertEqual(along("(a since b) since x", "11011", "10010", "10001"), "11001")
        self.assertEqual(along("not (a since b) and was x", "0110", "0100", "1000"), "1001")
        self.assertEqual(along("a since (before b)", "11101", "01000"), "00100")
        self.assertEqual(along("before (a since b)", "1110", "0100"), "0011")

    def test_lists_and_tuples_and_none(self):
        wish = ("since", A, ("before", X))
        for turns in ([], [(1, 0)], [(1, 1), (1, 0), (0, 0), (3, 1)]):
            told = values_along(BOARD, wish, turns)
            self.assertIsInstance(told, list)
            self.assertEqual(values_along(BOARD, wish, tuple(turns)), told)
            self.assertEqual(len(told), len(turns))
        for word in (YES, NO, A, ("not", A), ("before", A), ("was", A), ("and", A, B), ("or", A, B), ("since", A, B)):
            self.assertEqual(values_along(BOARD, word, []), [])
            self.assertEqual(values_along(BOARD, word, ()), [])

    def test_the_list_is_the_askers_own(self):
        turns = turns_of("0110")
        for wish in (A, YES, ("before", A), ("was", A), ("and", A, A)):
            told = values_along(BOARD, wish, turns)
            kept = list(told)
            told.append(None)
            told[0] = None
            self.assertEqual(values_along(BOARD, wish, turns), kept)
        self.assertEqual(turns, turns_of("0110"))

    def test_a_list_that_is_changed_later(self):
        turns = turns_of("0110")
        told = values_along(BOARD, A, turns)
        turns.append((0, 0))
        turns[1] = (0, 0)
        self.assertEqual(told, [False, True, True, False])

    def test_by_the_words_of_the_document(self):
        numbers = Numbers(10)
        for _ in range(300):
            wish = some_wish(numbers, ("a", "b", "x"), 5)
            turns = [numbers.one_of(all_turns(BOARD)) for _ in range(9)]
            told = [value_at(wish, turns, moment, {}) for moment in range(9)]
            self.assertEqual(values_along(BOARD, wish, turns), told, wish)


def value_at(wish, turns, moment, known):
    """A wish's value at a moment, just as the document tells it."""
    if (wish, moment) not in known:
        known[wish, moment] = fresh_value_at(wish, turns, moment, known)
    return known[wish, moment]


def fresh_value_at(wish, turns, moment, known):
    word = wish[0]
    if word == "sign":
        came, answered = turns[moment]
        return {"a": came % 2 == 1, "b": came // 2 == 1, "x": answered == 1}[wish[1]]
    if word in ("yes", "no"):
        return word == "yes"
    first = wish[1]
    if word == "not":
        return not value_at(first, turns, moment, known)
    if word == "before":
        return moment > 0 and value_at(first, turns, moment - 1, known)
    if word == "was":
        return any(value_at(first, turns, ahead, known) for ahead in range(moment + 1))
    second = wish[2]
    if word == "and":
        return value_at(first, turns, moment, known) and value_at(second, turns, moment, known)
    if word == "or":
        return value_at(first, turns, moment, known) or value_at(second, turns, moment, known)
    return any(
        value_at(second, turns, ahead, known)
        and all(value_at(first, turns, behind, known) for behind in range(ahead + 1, moment + 1))
        for ahead in range(moment + 1)
    )


class Loops(unittest.TestCase):
    def check(self, text, loop, always, again):
        wish = wish_of(text)
        told = loop_of(BOARD, loop)
        self.assertIs(holds_always(BOARD, wish, told), always, (text, loop))
        self.assertIs(holds_again(BOARD, wish, told), again, (text, loop))

    def test_without_a_stem(self):
        self.check("a", "| a/-", True, True)
        self.check("a", "| a/- -/-", False, True)
        self.check("a", "| -/-", False, False)
        self.check("yes", "| -/-", True, True)
        self.check("no", "| -/-", False, False)
        self.check("a or x", "| a/- -/x b/x", True, True)

    def test_with_a_stem(self):
        self.check("a", "-/- | a/-", False, True)
        self.check("a", "a/- | -/-", False, False)
        self.check("a", "a/- a/- | a/- a/-", True, True)
        self.check("was a", "a/- | -/-", True, True)
        self.check("was a", "-/- a/- | -/-", False, True)
        self.check("not a", "a/- | b/-", False, True)

    def test_the_first_moment_alone(self):
        self.check("before yes", "| -/-", False, True)
        self.check("not before yes", "| -/-", False, False)
        self.check("not before yes", "| a/- b/- -/x", False, False)
        self.check("before a", "a/- | -/-", False, False)

    def test_round_more_than_once(self):
        for many in range(1, 18):
            befores = "before " * many
            self.check(f"{befores}a", "| a/-", False, True)
            self.check(f"not {befores}a", "| a/-", False, False)
            self.check(f"not {befores}a", "| a/- a/-", False, False)
            self.check(f"not {befores}a", "a/- | a/- a/- a/-", False, False)
            self.check(f"{befores}a or not {befores}yes", "| a/-", True, True)

    def test_over_the_end_of_the_round(self):
        self.check("was b and a", "| a/- b/-", False, True)
        self.check("was b or a", "| a/- b/- -/-", True, True)
        self.check("(a since b) and not b", "| a/- b/-", False, True)
        self.check("(a since b) and before before b", "| a/- b/- a/-", False, True)
        self.check("(a since b) and before b", "| a/- b/- -/-", False, False)
        self.check("not (a since b) or b", "| a/- b/-", False, True)
        self.check("not a or not (a since b)", "| a/- b/-", False, True)
        self.check("before x or a", "| a/- -/x", False, True)
        self.check("before x or b", "| b/- b/- -/x", False, True)
        self.check("a since b", "b/- | a/-", True, True)
        self.check("a since b", "b/- | a/- a/- -/-", False, False)
        self.check("before x", "| -/- -/x", False, True)
        self.check("not (before x and a)", "| a/- -/x", False, True)

    def test_a_look_that_settles_late(self):
        # was was .. of what comes late, each one a moment later than the one within it.
        wish = "a"
        for _ in range(5):
            wish = f"was before ({wish})"
        self.check(wish, "| a/-", False, True)
        self.check(f"not {wish}", "| a/-", False, False)
        self.check(f"not {wish}", "| a/- -/-", False, False)

    def test_by_going_round_many_times(self):
        numbers = Numbers(11)
        for _ in range(400):
            wish = some_wish(numbers, ("a", "b", "x"), 6)
            turns = [numbers.one_of(all_turns(BOARD)) for _ in range(8)]
            stem = tuple(turns[:numbers.below(4)])
            again = tuple(turns[4:5 + numbers.below(4)])
            values = values_along(BOARD, wish, stem + again * 30)
            always = all(values)
            often = any(values[len(stem) + 20 * len(again):])
            self.assertIs(holds_always(BOARD, wish, (stem, again)), always)
            self.assertIs(holds_again(BOARD, wish, (stem, again)), often)
            self.assertIs(holds_again(BOARD, wish, lean((stem, again))), often)

    def test_the_longest(self):
        loop = (((0, 0),) * 200, ((1, 0),) * 199 + ((0, 1),))
        wish = chain("before", 19, X)
        self.assertIs(holds_always(BOARD, wish, loop), False)
        self.assertIs(holds_again(BOARD, wish, loop), True)
        self.assertIs(holds_again(BOARD, ("and", wish, X), loop), False)

    def test_no_loops(self):
        wrong = [((), ()), ((), [(0, 0)]), [(), ((0, 0),)], ((), ((4, 0),)), ((), ((0, 2),)), ((), ((True, 0),))]
        wrong += [(((0, 0),) * 201, ((0, 0),)), ((), ((0, 0),) * 201), (((0, 0),), ()), "| a/-", ((0, 0),)]
        task = (BOARD, (("given", "always", A), ("wanted", "again", X)))
        for thing in wrong + odd():
            self.assertRaises(BadLoop, holds_always, BOARD, A, thing)
            self.assertRaises(BadLoop, holds_again, BOARD, A, thing)
            self.assertRaises(BadLoop, rows_failed, task, thing)
            self.assertRaises(BadLoop, is_kept, task, thing)
            self.assertRaises(BadLoop, rows_failed, (BOARD, ()), thing)
            self.assertRaises(BadLoop, is_kept, (BOARD, ()), thing)

    def test_a_loop_of_another_board(self):
        self.assertRaises(BadLoop, holds_always, SMALL, A, ((), ((1, 1),)))
        self.assertRaises(BadLoop, is_kept, (SMALL, ()), ((), ((2, 0),)))


class Kept(unittest.TestCase):
    def check(self, rows, loop, failed, kept):
        task = (BOARD, tuple((side, how, wish_of(text)) for side, how, text in rows))
        self.assertEqual(rows_failed(task, loop_of(BOARD, loop)), failed, (rows, loop))
        self.assertIs(is_kept(task, loop_of(BOARD, loop)), kept, (rows, loop))

    def test_no_rows(self):
        self.check((), "| a/x", [], True)

    def test_wanted_rows(self):
        always = ("wanted", "always", "not a or x")
        again = ("wanted", "again", "b and x")
        self.check((always, again), "| a/x b/x", [], True)
        self.check((always, again), "| a/x b/-", [1], False)
        self.check((always, again), "a/- | b/x", [0], False)
        self.check((always, again), "a/- | b/-", [0, 1], False)
        self.check((always, again), "b/x | a/x", [1], False)

    def test_a_given_row_that_fails(self):
        given = ("given", "again", "a")
        wanted = ("wanted", "always", "x")
        self.check((given, wanted), "| a/x", [], True)
        self.check((given, wanted), "| a/-", [1], False)
        self.check((given, wanted), "| b/x", [0], True)
        self.check((given, wanted), "| b/-", [0, 1], True)
        self.check((given, wanted), "a/- a/- | -/-", [0, 1], True)

    def test_one_given_row_of_several(self):
        rows = (("given", "always", "a"), ("wanted", "again", "x"), ("given", "again", "b"))
        self.check(rows, "| a+b/-", [1], False)
        self.check(rows, "| a/-", [1, 2], True)
        self.check(rows, "| b/-", [0, 1], True)
        self.check(rows, "-/- | a+b/-", [0, 1], True)
        self.check(rows, "| a/- a+b/x", [], True)

    def test_our_answers_that_break_what_is_given(self):
        rows = (("given", "always", "not x"), ("wanted", "always", "a"))
        self.check(rows, "| b/-", [1], False)
        self.check(rows, "| b/x", [0, 1], True)
        self.check(rows, "b/- b/- | b/- -/x", [0, 1], True)

    def test_like_rows_each_by_itself(self):
        row = ("wanted", "always", "a")
        self.check((row, row, ("wanted", "again", "a"), row), "-/- | a/-", [0, 1, 3], False)

    def test_always_and_again_of_one_wish(self):
        rows = (("wanted", "always", "before a"), ("wanted", "again", "before a"))
        self.check(rows, "| a/-", [0], False)
        self.check(rows, "a/- | -/-", [0, 1], False)

    def test_the_list_is_the_askers_own(self):
        task = (BOARD, (("wanted", "always", A),))
        loop = ((), ((0, 0),))
        rows_failed(task, loop).clear()
        self.assertEqual(rows_failed(task, loop), [0])


if __name__ == "__main__":
    unittest.main()
