"""X2, X3, X4: texts of wishes, tasks, turns and loops read."""

import itertools
import unittest

from things import A, B, C, NO, X, YES, Numbers, chain, ends_of, kinds, left, right, some_wish, wide
from wishkeep.boards import all_turns
from wishkeep.errors import BadText, TooGreat
from wishkeep.reading import loop_of, task_of, turn_of, wish_of
from wishkeep.writing import loop_text, task_text, turn_text, wish_text

BOARD = (("a", "b"), ("x",))


class Reading(unittest.TestCase):
    def refused(self, line, at, read, *told):
        with self.assertRaises(BadText) as caught:
            read(*told)
        self.assertEqual((caught.exception.line, caught.exception.at), (line, at), told)


class WishesRead(Reading):
    def bad(self, text, at):
        self.refused(1, at, wish_of, text)

    def test_words_and_names(self):
        for text, wish in (
            ("yes", YES), ("no", NO), ("a", A), ("abcdef", ("sign", "abcdef")), ("not a", ("not", A)),
            ("before yes", ("before", YES)), ("was a", ("was", A)), ("a and b", ("and", A, B)),
            ("a or b", ("or", A, B)), ("a since b", ("since", A, B)),
            ("andy or nota", ("or", ("sign", "andy"), ("sign", "nota"))),
        ):
            self.assertEqual(wish_of(text), wish)

    def test_how_close_words_bind(self):
        for text, wish in (
            ("not a and b", ("and", ("not", A), B)),
            ("not a since b", ("since", ("not", A), B)),
            ("a since not b", ("since", A, ("not", B))),
            ("before a or b", ("or", ("before", A), B)),
            ("a since b and c", ("and", ("since", A, B), C)),
            ("a and b since c", ("and", A, ("since", B, C))),
            ("a and b or c", ("or", ("and", A, B), C)),
            ("a or b and c", ("or", A, ("and", B, C))),
            ("a since b or c since x", ("or", ("since", A, B), ("since", C, X))),
            ("a since b and c since x", ("and", ("since", A, B), ("since", C, X))),
            ("not before was a", ("not", ("before", ("was", A)))),
            ("a or b and c since not x", ("or", A, ("and", B, ("since", C, ("not", X))))),
        ):
            self.assertEqual(wish_of(text), wish, text)

    def test_side_by_side(self):
        for word in ("and", "or"):
            self.assertEqual(wish_of(f"a {word} b {word} c {word} x"), left(word, [A, B, C, X]))
            self.assertEqual(wish_of(f"a {word} (b {word} (c {word} x))"), right(word, [A, B, C, X]))
        self.assertEqual(
            wish_of("a or b and c or x and a and b or no"),
            left("or", [A, ("and", B, C), left("and", [X, A, B]), NO]),
        )

    def test_brackets(self):
        for text, wish in (
            ("(a)", A), ("((a))", A), ("(a and b)", ("and", A, B)), ("(a) and ((b))", ("and", A, B)),
            ("not (a and b)", ("not", ("and", A, B))), ("(not a) and b", ("and", ("not", A), B)),
            ("a and (b or c)", ("and", A, ("or", B, C))), ("(a and b) and c", left("and", [A, B, C])),
            ("(a since b) since c", ("since", ("since", A, B), C)),
            ("a since (b since c)", ("since", A, ("since", B, C))),
            ("(a since b)", ("since", A, B)), ("(a) since (b) and (c)", ("and", ("since", A, B), C)),
            ("not (a since b) since c", ("since", ("not", ("since", A, B)), C)),
        ):
            self.assertEqual(wish_of(text), wish, text)

    def test_a_hundred_brackets(self):
        self.assertEqual(wish_of("(" * 100 + "a and b" + ")" * 100), ("and", A, B))
        self.assertEqual(wish_of("not " + "(" * 100 + "a" + ")" * 100 + " or b"), ("or", ("not", A), B))
        self.assertEqual(wish_of("( " * 100 + "a" + " )" * 100), A)

    def test_thousands_of_signs(self):
        self.assertEqual(wish_of("(" * 1500 + "a" + ")" * 1500), A)
        self.assertEqual(wish_of(" " * 2000 + "a" + " " * 1999), A)
        self.bad("(" * 3000, 3000)
        self.bad("(" * 2999 + ")", 2999)
        self.bad("(" * 1500 + "a" + ")" * 1501, 3001)
        self.bad("(" * 1500 + "a" + ")" * 1499, 3000)
        self.bad("not " * 1000, 4000)
        self.assertEqual(wish_of("not(" * 19 + "(" * 900 + "a" + ")" * 919), chain("not", 19, A))

    def test_blanks(self):
        for text in (
            "not (a and b) or c", "  not (a and b) or c", "not (a and b) or c   ", "not   (a   and   b)   or   c",
            "not ( a and b ) or c", "not(a and b)or c", "  not(  a and b  )or c  ", "(not(a and b))or(c)",
        ):
            self.assertEqual(wish_of(text), ("or", ("not", ("and", A, B)), C), text)
        self.assertEqual(wish_of("(a)and(b)"), ("and", A, B))
        self.assertEqual(wish_of("not(before(was(a)))"), ("not", ("before", ("was", A))))
        self.assertEqual(wish_of("nota"), ("sign", "nota"))

    def test_a_wrong_word_first(self):
        for text in ("and a", "or", "since b", ")", "given", "abcdefg", "1a", "A", ") and", "always a"):
            self.bad(text, 0)
        self.bad("   and a", 3)

    def test_a_wrong_word_in_the_middle(self):
        for text, at in (
            ("a b and c", 2), ("a not b", 2), ("a and or b", 6), ("a and and b", 6), ("not and a", 4),
            ("a and (or b)", 7), ("a since b since c", 10), ("a yes b", 2), ("(a b)", 3), ("() and a", 1),
            ("a and not or b", 10), ("a  since  since b", 10), ("a (b)", 2), ("(a)(b)", 3), ("(a) b and c", 4),
            ("a and before since b", 13), ("was was and a", 8),
        ):
            self.bad(text, at)

    def test_a_wrong_word_last(self):
        for text, at in (
            ("a b", 2), ("a )", 2), ("(a))", 3), ("a and b c", 8), ("a and )", 6), ("(a and)", 6), ("not )", 4),
            ("a since b since", 10), ("a yes", 2), ("a not", 2), ("(a) (", 4),
        ):
            self.bad(text, at)

    def test_since_beside_since(self):
        for text, at in (
            ("a since b since c", 10), ("a since not b since c", 14), ("a and b since c since x", 16),
            ("(a since b since c)", 11), ("a since (b) since c", 12), ("a since before not b since c", 21),
            ("not a since b since c", 14), ("(a since b) since c since x", 20), ("a or a since b since c", 15),
        ):
            self.bad(text, at)
        for text in ("a since b and c since x", "a since b or c since x", "(a since b) since c", "a since (b since c)"):
            wish_of(text)

    def test_signs_that_are_in_no_word(self):
        for sign in "AZ09_-+/|.,'\"\n\t%~\u00e9\u0430\r[{":
            self.bad(sign, 0)
            self.bad(f"a{sign}", 1)
            self.bad(f"a {sign}", 2)
            self.bad(f"a and {sign}", 6)
            self.bad(f"a and b{sign}c", 7)
            self.bad(f"({sign})", 1)
            self.bad(f"not {sign}a", 4)

    def test_the_first_of_several(self):
        self.bad("a b %", 2)
        self.bad("a % b c", 2)
        self.bad("and and and", 0)
        self.bad("(a b", 3)

    def test_words_that_are_none_of_wishes(self):
        for word in ("given", "wanted", "always", "again", "comes", "answers", "abcdefg", "truthful"):
            self.bad(word, 0)
            self.bad(f"a and {word}", 6)
            self.bad(f"a {word} b", 2)
            self.bad(f"not ({word})", 5)

    def test_long_words(self):
        self.bad("a and abcdefg", 6)
        self.bad("before" + "a", 0)
        self.bad("a sinces b", 2)

    def test_brackets_that_are_not_closed(self):
        for text in ("(", "((", "(a", "not (a", "(a and (b)", "a and (", "(a  ", "((a) and b"):
            self.bad(text, len(text))

    def test_brackets_that_are_closed_too_often(self):
        for text, at in ((")", 0), ("a)", 1), ("(a))", 3), ("(a) and b)", 9), ("a and b ) or c", 8)):
            self.bad(text, at)

    def test_words_that_are_lacking(self):
        for text in (
            "", " ", "     ", "not", "not ", "a and", "a or  ", "a since", "before not", "a and not",
            "a and b or c since", "(a) and",
        ):
            self.bad(text, len(text))

    def test_no_text(self):
        for thing in kinds() + [(), ("a",), 0, 1, A, YES]:
            self.bad(thing, 0)

    def test_too_great(self):
        self.assertEqual(wish_of("not " * 19 + "a"), chain("not", 19, A))
        self.assertRaises(TooGreat, wish_of, "not " * 20 + "a")
        self.assertRaises(TooGreat, wish_of, "not " * 999 + "a")
        self.assertEqual(wish_of(" and ".join("a" * 20)), left("and", [A] * 20))
        self.assertRaises(TooGreat, wish_of, " and ".join("a" * 21))
        self.assertRaises(TooGreat, wish_of, " or ".join("a" * 700))
        tens = "(" + " or ".join(["a"] * 10) + ")"
        self.assertEqual(wish_of(f"{tens} and {tens} and {tens}"), left("and", [left("or", [A] * 10)] * 3))
        self.assertEqual(wish_of(f"not ({tens} and {tens} and {tens})")[0], "not")
        self.assertRaises(TooGreat, wish_of, f"not not ({tens} and {tens} and {tens})")
        self.assertRaises(TooGreat, wish_of, f"{tens} and {tens} and {tens} and a")

    def test_just_sixty(self):
        self.assertEqual(wish_of(phrase(wide(60))), wide(60))
        self.assertRaises(TooGreat, wish_of, phrase(wide(61)))

    def test_too_great_only_of_what_is_a_text(self):
        self.bad("not " * 30, 120)
        self.bad("not " * 30 + "a b", 122)
        self.bad("(" + "not " * 30 + "a", 122)
        self.bad(" and ".join("a" * 61) + " and", 60 * 6 + 5)
        self.bad("not " * 30 + "A", 120)

    def test_what_was_written_is_read(self):
        numbers = Numbers(7)
        for _ in range(500):
            wish = some_wish(numbers, ("a", "b", "door"), 6)
            if len(ends_of(wish)) <= 60:
                self.assertEqual(wish_of(wish_text(wish)), wish)

    def test_all_short_rows_of_words(self):
        words = ("a", "not", "and", "or", "since", "(", ")", "given")
        for many in range(6):
            for row in itertools.product(words, repeat=many):
                text = " ".join(row)
                wish, wrong = descended(row)
                if wish is not None:
                    self.assertEqual(wish_of(text), wish, text)
                else:
                    self.bad(text, len(" ".join(row[:wrong] + ("",))) if wrong < many else len(text))


def phrase(wish):
    """A text with all brackets that may stand, of any size."""
    if wish[0] == "sign":
        return f"({wish[1]})"
    parts = [phrase(part) for part in wish[1:]]
    if len(parts) == 2:
        return f"({parts[0]} {wish[0]} {parts[1]})"
    return "(" + " ".join([wish[0]] + parts) + ")"


class Stop(Exception):
    """The number of the word that can't stand."""


def descended(row):
    """A wish and None, or None and the number of the first wrong word, by a reader of another make."""
    try:
        wish, end = alternatives(row, 0)
        if end < len(row):
            raise Stop(end)
        return wish, None
    except Stop as stop:
        return None, stop.args[0]


def several(row, at, word, inner):
    wish, at = inner(row, at)
    while row[at:at + 1] == (word,):
        part, at = inner(row, at + 1)
        wish = (word, wish, part)
    return wish, at


def alternatives(row, at):
    return several(row, at, "or", all_of_these)


def all_of_these(row, at):
    return several(row, at, "and", one_since)


def one_since(row, at):
    wish, at = single(row, at)
    if row[at:at + 1] == ("since",):
        begin, at = single(row, at + 1)
        wish = ("since", wish, begin)
    return wish, at


def single(row, at):
    word = row[at] if at < len(row) else None
    if word == "not":
        wish, at = single(row, at + 1)
        return ("not", wish), at
    if word == "a":
        return A, at + 1
    if word != "(":
        raise Stop(at)
    wish, at = alternatives(row, at + 1)
    if row[at:at + 1] != (")",):
        raise Stop(at)
    return wish, at + 1


TEXT = "comes a b\nanswers x\ngiven always a or b\nwanted again not (a and before x)"
TASK = (BOARD, (("given", "always", ("or", A, B)), ("wanted", "again", ("not", ("and", A, ("before", X))))))
HEAD = "comes a b\nanswers x\n"


class TasksRead(Reading):
    def bad(self, text, line, at):
        self.refused(line, at, task_of, text)

    def test_a_task(self):
        self.assertEqual(task_of(TEXT), TASK)
        self.assertEqual(task_text(task_of(TEXT)), TEXT)

    def test_boards(self):
        for comes in range(4):
            for answers in range(4):
                board = (("c", "a", "b")[:comes], ("z", "x", "y")[:answers])
                self.assertEqual(task_of(task_text((board, ()))), (board, ()))
                task = (board, (("given", "again", NO),))
                self.assertEqual(task_of(task_text(task)), task)

    def test_blanks_more(self):
        self.assertEqual(task_of(
            "  comes   a b  \n answers  x \n  given   always (a)or( b )  \nwanted again   not(a and before x)"
        ), TASK)
        self.assertEqual(task_of("comes\nanswers\ngiven always(yes)"), (((), ()), (("given", "always", YES),)))
        self.assertEqual(task_of("comes  \nanswers  "), (((), ()), ()))

    def test_rows_of_nothing_or_of_blanks(self):
        self.assertEqual(task_of("\n\n" + TEXT.replace("\n", "\n  \n\n") + "\n\n   \n"), TASK)
        self.assertEqual(task_of("   \ncomes\n \nanswers\n"), (((), ()), ()))

    def test_eight_rows(self):
        row = "given always a"
        self.assertEqual(len(task_of(HEAD + "\n".join([row] * 8))[1]), 8)
        self.assertEqual(len(task_of(HEAD + "\n\n".join([row] * 8) + "\n\n \n")[1]), 8)
        self.bad(HEAD + "\n".join([row] * 9), 11, 0)
        self.bad(HEAD + "\n".join([row] * 8) + "\n\n   given", 12, 3)
        self.bad(HEAD + "\n".join([row] * 8) + "\n %", 11, 1)
        self.bad(HEAD + "\n".join([row] * 8) + "\nxyz", 11, 0)

    def test_wrong_heads(self):
        self.bad("come a b\nanswers x", 1, 0)
        self.bad("  Comes a b\nanswers x", 1, 2)
        self.bad("answers x\ncomes a", 1, 0)
        self.bad("comes a b\nanswer x", 2, 0)
        self.bad("comes a b\n\n  comes x", 3, 2)
        self.bad("comes a b\ngiven always a", 2, 0)
        self.bad("given always a", 1, 0)
        self.bad("comesa b\nanswers x", 1, 0)
        self.bad("\n(comes a)", 2, 0)

    def test_names_of_boards(self):
        self.bad("comes a b c d\nanswers", 1, 12)
        self.bad("comes a b c\nanswers x y z  w", 2, 15)
        self.bad("comes a b a\nanswers", 1, 10)
        self.bad("comes a b\nanswers x x", 2, 10)
        self.bad("comes a b\nanswers x b", 2, 10)
        for word in ("yes", "given", "answers", "comes", "abcdefg", "A", "1", "(", ")", "+", "%", "\t"):
            self.bad(f"comes a {word}\nanswers", 1, 8)
            self.bad(f"comes\nanswers a {word}", 2, 10)
        self.bad("comes a1\nanswers", 1, 7)
        self.bad("comes a,b\nanswers", 1, 7)
        self.bad("comes a(b)\nanswers", 1, 7)
        self.bad("comes a b c a\nanswers", 1, 12)

    def test_wrong_words_of_rows(self):
        self.bad(HEAD + "always a", 3, 0)
        self.bad(HEAD + " a", 3, 1)
        self.bad(HEAD + "given a", 3, 6)
        self.bad(HEAD + "given given a", 3, 6)
        self.bad(HEAD + "given always always a", 3, 13)
        self.bad(HEAD + "given always a\nwanted  never a", 4, 8)
        self.bad(HEAD + "given always a b", 3, 15)
        self.bad(HEAD + "given always a and )", 3, 19)
        self.bad(HEAD + "given always a %", 3, 15)
        self.bad(HEAD + "given, always a", 3, 5)
        self.bad(HEAD + "given (always a)", 3, 6)
        self.bad(HEAD + "comes a", 3, 0)
        self.bad(HEAD + "given again a since b since a", 3, 22)

    def test_signs_that_are_none_of_the_board(self):
        self.bad(HEAD + "given always c", 3, 13)
        self.bad(HEAD + "given always a and (b or y)", 3, 25)
        self.bad(HEAD + "given always a\nwanted always not y", 4, 18)
        self.bad("comes\nanswers\ngiven always a", 3, 13)

    def test_rows_that_end_too_soon(self):
        for row in ("given", "given  ", "given always", "wanted again  ", "given always a and", "given always (a",
                    "given always not ", "given always a since", "given always ((a) or b  "):
            self.bad(HEAD + row, 3, len(row))
            self.bad(HEAD + row + "\ngiven always a", 3, len(row))
            self.bad(HEAD + "\n" + row + "\nxyz", 4, len(row))

    def test_rows_that_are_lacking(self):
        for text, line, at in (
            ("", 1, 0), ("   ", 1, 3), ("\n", 2, 0), ("\n\n  ", 3, 2), ("comes", 1, 5), ("comes a b", 1, 9),
            ("comes a b  ", 1, 11), ("comes a b\n", 2, 0), ("comes a b\n\n   ", 3, 3), ("\ncomes\n \n", 4, 0),
        ):
            self.bad(text, line, at)

    def test_the_first_of_several(self):
        self.bad("comes a a", 1, 8)
        self.bad(HEAD + "given always c\ngiven", 3, 13)
        self.bad(HEAD + "given\ngiven always c", 3, 5)

    def test_no_text(self):
        for thing in kinds() + [(), ("comes",), 0, TASK]:
            self.bad(thing, 1, 0)

    def test_too_great_of_a_wish(self):
        for wish in ("not " * 20 + "a", " and ".join("a" * 21), "not " * 900 + "a"):
            self.assertRaises(TooGreat, task_of, HEAD + f"given always {wish}")
            self.assertRaises(TooGreat, task_of, HEAD + f"given always {wish}\ngiven always a")
        self.assertEqual(task_of(HEAD + "given always " + "not " * 19 + "a")[1][0][2], chain("not", 19, A))
        thirty = "(" + " or ".join(["a"] * 15) + ")"
        self.assertEqual(len(task_of(HEAD + f"given always not ({thirty} and {thirty})")[1]), 1)
        self.assertRaises(TooGreat, task_of, HEAD + f"given always not not ({thirty} and {thirty})")

    def test_too_great_of_looks(self):
        self.assertEqual(len(task_of(HEAD + "given always " + "was " * 6 + "a")[1]), 1)
        self.assertRaises(TooGreat, task_of, HEAD + "given always " + "was " * 7 + "a")
        rows = "\n".join(f"given always before {wish}" for wish in ("a", "b", "x", "not a", "not b", "not x"))
        self.assertEqual(len(task_of(HEAD + rows)[1]), 6)
        self.assertRaises(TooGreat, task_of, HEAD + rows + "\nwanted always was a")
        self.assertEqual(len(task_of(HEAD + rows + "\nwanted always before a")[1]), 7)

    def test_too_great_behind_all_rows(self):
        for wish in ("not " * 20 + "a", "was " * 7 + "a"):
            self.bad(HEAD + f"given always {wish}\ngiven", 4, 5)
            self.bad(HEAD + f"given always {wish}\ngiven always c", 4, 13)
            self.bad(HEAD + f"given always {wish}\n" + "given always a\n" * 8, 11, 0)

    def test_what_was_written_is_read(self):
        numbers = Numbers(8)
        for _ in range(200):
            rows = tuple(
                (numbers.one_of(("given", "wanted")), numbers.one_of(("always", "again")),
                 some_wish(numbers, ("a", "b", "x"), 3))
                for _ in range(numbers.below(3))
            )
            self.assertEqual(task_of(task_text((BOARD, rows))), (BOARD, rows))


class TurnsRead(Reading):
    def test_all_turns(self):
        for board in (BOARD, ((), ()), (("c", "a", "b"), ("z", "x", "y")), ((), ("x",))):
            for turn in all_turns(board):
                self.assertEqual(turn_of(board, turn_text(board, turn)), turn)
                self.assertEqual(turn_of(board, f"   {turn_text(board, turn)}  "), turn)

    def test_some_turns(self):
        self.assertEqual(turn_of(BOARD, "-/-"), (0, 0))
        self.assertEqual(turn_of(BOARD, "a+b/-"), (3, 0))
        self.assertEqual(turn_of(BOARD, " b/x "), (2, 1))

    def test_texts_that_write_none(self):
        for text in (
            "", "   ", "a", "a/", "/x", "/", "a/x/", "a/x a/x", "a /x", "a/ x", "a + b/x", "b+a/x", "a+a/-", "a+/x",
            "+a/x", "-a/x", "a+-/x", "--/x", "c/x", "x/a", "a/b", "A/x", "a//x", "a\\x", "|", "| a/x", "a/x |", "a/x\n",
            "\na/x", "a/x\t", "a,b/x", "yes/no", "ab/x", "0/0", "1/0", "-/- -",
        ):
            self.refused(1, 0, turn_of, BOARD, text)

    def test_no_text(self):
        for thing in kinds() + [(), (0, 0), 0, ("a/x",)]:
            self.refused(1, 0, turn_of, BOARD, thing)


class LoopsRead(Reading):
    def bad(self, text, at):
        self.refused(1, at, loop_of, BOARD, text)

    def test_loops(self):
        self.assertEqual(loop_of(BOARD, "| -/-"), ((), ((0, 0),)))
        self.assertEqual(loop_of(BOARD, "a/- b/x | a+b/- -/x"), (((1, 0), (2, 1)), ((3, 0), (0, 1))))
        self.assertEqual(loop_of(((), ()), "-/- | -/-"), (((0, 0),), ((0, 0),)))

    def test_not_made_lean(self):
        self.assertEqual(loop_of(BOARD, "a/- | a/- a/-"), (((1, 0),), ((1, 0), (1, 0))))

    def test_blanks_more(self):
        self.assertEqual(loop_of(BOARD, "  a/-   b/x |  -/x  "), (((1, 0), (2, 1)), ((0, 1),)))

    def test_turns_that_are_none(self):
        for text, at in (
            ("c/x | a/x", 0), ("a/x c/x | a/x", 4), ("a/x | c/x", 6), ("  a/x  |  a/x  b+a/x", 15),
            ("a/x | a/x,", 6), ("a/x | a / x", 6), ("a /x | a/x", 0), ("| a+a/-", 2), ("a/x\n| a/x", 0),
            ("a/x | a/x\n", 6), ("a/x | \na/x", 6), ("%", 0), ("| a", 2), ("| a/x/", 2), ("a/x | (a/x)", 6),
        ):
            self.bad(text, at)

    def test_signs_without_blanks_between(self):
        self.bad("a/x|a/x", 0)
        self.bad("a/x| a/x", 0)
        self.bad("a/x |a/x", 4)
        self.bad("||", 0)

    def test_a_second_line(self):
        self.bad("| a/x |", 6)
        self.bad("a/x | | a/x", 6)
        self.bad("a/x | a/x | b/x", 10)
        self.bad("|   |", 4)

    def test_no_line(self):
        for text in ("", "  ", "a/x", "a/x b/x  ", "-/-"):
            self.bad(text, len(text))

    def test_nothing_behind_the_line(self):
        for text in ("|", "| ", "a/x |", "a/x b/x |   "):
            self.bad(text, len(text))

    def test_the_first_of_several(self):
        self.bad("a/x c/x", 4)
        self.bad("c/x | | a/x", 0)
        self.bad("| | c/x", 2)

    def test_two_hundred_turns(self):
        turn = "a/x"
        text = f"{turn} " * 200 + "|" + f" {turn}" * 200
        self.assertEqual(loop_of(BOARD, text), (((1, 1),) * 200, ((1, 1),) * 200))
        self.bad(f"{turn} " * 201 + f"| {turn}", 800)
        self.bad(f"{turn} " * 201, 800)
        self.bad("|" + f" {turn}" * 201, 802)
        self.bad(f"{turn} " * 200 + "|" + f" {turn}" * 201, 1602)
        self.bad(f"{turn} " * 200 + f"c | {turn}", 800)
        self.bad(f"{turn} " * 200, 800)
        self.bad("|" + f" {turn}" * 200 + " |", 802)

    def test_no_text(self):
        for thing in kinds() + [(), ((), ((0, 0),)), 0]:
            self.bad(thing, 0)

    def test_what_was_written_is_read(self):
        numbers = Numbers(9)
        for _ in range(100):
            turns = [numbers.one_of(all_turns(BOARD)) for _ in range(12)]
            loop = (tuple(turns[:numbers.below(6)]), tuple(turns[6:7 + numbers.below(6)]))
            self.assertEqual(loop_of(BOARD, loop_text(BOARD, loop)), loop)


if __name__ == "__main__":
    unittest.main()
