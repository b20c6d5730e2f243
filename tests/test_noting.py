"""N3: texts of machines, plans and papers."""

import unittest

from test_keeper import BOARDS, task_by
from test_papers import COPY, LATE, some_told
from things import Numbers, odd, some_machine, some_plan
from wishkeep.boards import letters_of
from wishkeep.checker import shows_machine, shows_plan
from wishkeep.errors import BadText
from wishkeep.keeper import told
from wishkeep.noting import (
    machine_text, papers_text, plan_papers_text, plan_text, read_machine, read_papers, read_plan, read_plan_papers,
)
from wishkeep.papers import machine_papers, plan_papers
from wishkeep.reading import task_of

ONE = (("a",), ("x",))
AT = ((), True, True)
WORDS = ["goal", "rows", "counts", "0", "1", "01", "11", "00110", ":", ",", "-", "goals", "Goal", "10", "999999999"]


class Checks(unittest.TestCase):
    def bad(self, read, text, line, *boards):
        """Checks that a text is refused, and the row that is told."""
        with self.assertRaises(BadText) as caught:
            read(*boards, text)
        self.assertEqual((caught.exception.line, caught.exception.at), (line, 0), (read, text))

    def both(self, write, read, thing, text, *boards):
        """Checks that a thing is written so, and that it is read."""
        self.assertEqual(write(thing), text)
        self.assertEqual(read(*boards, text), thing)
        self.assertEqual(write(thing), text)


class Machines(Checks):
    def test_written_and_read(self):
        for board, machine, text in (
            (((), ()), (((0, 0),),), "0 0"),
            (ONE, COPY, "0 0, 1 0"),
            (ONE, LATE, "0 0, 0 1\n1 0, 1 1"),
            ((("a", "b"), ()), (((0, 0), (0, 1)) * 2, ((0, 1),) * 4), "0 0, 0 1, 0 0, 0 1\n0 1, 0 1, 0 1, 0 1"),
            (((), ("x", "y", "z")), (((7, 1),), ((3, 0),)), "7 1\n3 0"),
        ):
            self.both(machine_text, read_machine, machine, text, board)

    def test_some(self):
        numbers = Numbers(170)
        for board in BOARDS + ((("a", "b", "c"), ("x", "y", "z")),):
            for many in (1, 2, 11, 120):
                machine = some_machine(numbers, board, many)
                text = machine_text(machine)
                self.assertEqual(len(text.split("\n")), many)
                self.assertEqual(read_machine(board, text), machine)

    def test_4096_rooms_and_one_more(self):
        machine = tuple(((1, (room * 7) % 4096), (0, 4095)) for room in range(4096))
        text = machine_text(machine)
        self.assertEqual(read_machine(ONE, text), machine)
        self.bad(read_machine, text + "\n0 0, 0 0", 4097, ONE)
        self.bad(read_machine, text + "\n0 0, 0 0\nno", 4097, ONE)
        self.bad(read_machine, text + "\n", 4097, ONE)
        self.bad(read_machine, text.replace("4095", "4096"), 1, ONE)
        self.bad(read_machine, "\n".join(["0 0, 0 0"] * 9000), 4097, ONE)

    def test_bad_rows(self):
        for row in (
            "", " ", "0", "0 0", "0 0,", "0 0, ", "0 0 0 0", "0 0,0 0", "0 0 , 0 0", "0 0,  0 0", "0  0, 0 0",
            " 0 0, 0 0", "0 0, 0 0 ", "0 0, 0 0,", "0 0, 0 0, 0 0", "0 0, 0 0 0", "00 0, 0 0", "0 00, 0 0",
            "0 01, 0 0", "+1 0, 0 0", "-1 0, 0 0", "2 0, 0 0", "0 0, 2 0", "0 3, 0 0", "0 0, 0 3", "0 1000000000, 0 0",
            "0 999999999, 0 0", "0000000000 0, 0 0", "a 0, 0 0", "0 0, x 0", "0 0; 0 0", "0 0,\t0 0", "0\t0, 0 0",
            "0 0, 0 0\r", "0 0,, 0 0", ", 0 0", "1.0 0, 0 0", "0_0 0, 0 0", "0 0 : 0", "goal", "\u0660 0, 0 0",
            "\u00b2 0, 0 0", "0 \uff10, 0 0", "()",
        ):
            for lines in (1, 2, 3):
                rows = ["0 0, 1 0"] * 3
                rows[lines - 1] = row
                self.bad(read_machine, "\n".join(rows), lines, ONE)

    def test_the_first_bad_row(self):
        good = "0 0, 0 0"
        self.bad(read_machine, "\n".join([good, "0 0", "no"]), 2, ONE)
        self.bad(read_machine, "\n".join([good, "0 9, 0 0", "no"]), 2, ONE)
        self.bad(read_machine, "\n".join(["0 2, 0 0", good]), 1, ONE)
        self.bad(read_machine, "\n".join([good, "0 0, 0 2"]), 2, ONE)
        self.assertEqual(read_machine(ONE, "\n".join(["0 1, 0 0", good])), (((0, 1), (0, 0)), ((0, 0), (0, 0))))

    def test_letters_of_the_board(self):
        self.bad(read_machine, "0 0", 1, ONE)
        self.bad(read_machine, "0 0, 0 0", 1, ((), ("x",)))
        self.bad(read_machine, "1 0", 1, ((), ()))
        self.assertEqual(read_machine(((), ("x", "y")), "3 0"), (((3, 0),),))
        self.bad(read_machine, "4 0", 1, ((), ("x", "y")))
        self.bad(read_machine, "0 0, 0 0", 1, (("a", "b"), ()))

    def test_line_ends(self):
        good = "0 0, 0 0"
        self.bad(read_machine, good + "\n", 2, ONE)
        self.bad(read_machine, "\n" + good, 1, ONE)
        self.bad(read_machine, good + "\n\n" + good, 2, ONE)
        self.bad(read_machine, good + "\n\n", 2, ONE)
        self.bad(read_machine, good + "\r\n" + good, 1, ONE)
        self.bad(read_machine, "", 1, ONE)


class Plans(Checks):
    def test_written_and_read(self):
        for board, plan, text in (
            (((), ()), ((0, (0,)),), "0 : 0"),
            (ONE, ((1, (0, 1)), (0, (1, 1))), "1 : 0 1\n0 : 1 1"),
            (((), ("x", "y")), ((0, (0, 0, 1, 0)), (0, (1, 0, 1, 0))), "0 : 0 0 1 0\n0 : 1 0 1 0"),
            ((("a", "b", "c"), ()), ((7, (1,)), (3, (0,))), "7 : 1\n3 : 0"),
        ):
            self.both(plan_text, read_plan, plan, text, board)

    def test_some(self):
        numbers = Numbers(171)
        for board in BOARDS + ((("a", "b", "c"), ("x", "y", "z")),):
            for many in (1, 2, 11, 120):
                plan = some_plan(numbers, board, many)
                text = plan_text(plan)
                self.assertEqual(len(text.split("\n")), many)
                self.assertEqual(read_plan(board, text), plan)

    def test_4096_rooms_and_one_more(self):
        plan = tuple((room % 2, ((room * 7) % 4096, 4095)) for room in range(4096))
        text = plan_text(plan)
        self.assertEqual(read_plan(ONE, text), plan)
        self.bad(read_plan, text + "\n0 : 0 0", 4097, ONE)
        self.bad(read_plan, text + "\n", 4097, ONE)
        self.bad(read_plan, text.replace("4095", "4096"), 1, ONE)

    def test_bad_rows(self):
        for row in (
            "", " ", "0", "0 :", "0 : ", "0 : 0", "0 : 0 0 0", "0 0 0", "0 0 0 0", "0: 0 0", "0 :0 0", "0  : 0 0",
            "0 :  0 0", "0 : 0  0", " 0 : 0 0", "0 : 0 0 ", "0 : 0, 0", "2 : 0 0", "-1 : 0 0", "00 : 0 0", "01 : 0 0",
            "0 : 00 0", "0 : 0 3", "0 : 3 0", "0 : 0 1000000000", "0 : 0 999999999", "a : 0 0", "0 : 0 x", ": 0 0",
            ": : 0 0", "0 : : 0", "0 0 : 0", "0 :: 0 0", "0 ; 0 0", "0\t: 0 0", "0 : 0 0\r", "0 0, 0 0", "rows",
            "\u0660 : 0 0", "0 : 0 \u0661",
        ):
            for lines in (1, 2, 3):
                rows = ["0 : 0 0"] * 3
                rows[lines - 1] = row
                self.bad(read_plan, "\n".join(rows), lines, ONE)

    def test_letters_of_the_board(self):
        self.bad(read_plan, "0 : 0 0", 1, (("a",), ()))
        self.bad(read_plan, "0 : 0", 1, ONE)
        self.bad(read_plan, "1 : 0", 1, ((), ()))
        self.assertEqual(read_plan((("a", "b"), ()), "3 : 0"), ((3, (0,)),))
        self.bad(read_plan, "4 : 0", 1, (("a", "b"), ()))

    def test_line_ends(self):
        good = "0 : 0 0"
        self.bad(read_plan, good + "\n", 2, ONE)
        self.bad(read_plan, "\n" + good, 1, ONE)
        self.bad(read_plan, good + "\n\n" + good, 2, ONE)
        self.bad(read_plan, "", 1, ONE)
        self.bad(read_plan, "0 : 0 2\n" + good, 1, ONE)
        self.bad(read_plan, good + "\n0 : 0 3\nno", 2, ONE)
        self.bad(read_plan, good + "\n0 : 0 2\nno", 3, ONE)


class Papers(Checks):
    def test_written_and_read(self):
        self.both(papers_text, read_papers, (((0, AT, 0, 0),),), "goal\n0 11 0 0")
        self.both(
            papers_text, read_papers,
            (((0, ((False, True), True, False), 12, 3), (1, ((True, False), False, True), 0, 0)), ((2, AT, 5, 0),)),
            "goal\n0 0110 12 3\n1 1001 0 0\ngoal\n2 11 5 0",
        )
        self.both(
            plan_papers_text, read_plan_papers, (((0, AT, 0, 0),), (((0, AT, 1),), ((0, AT, 0),))),
            "rows\n0 11 0 0\ncounts\n0 11 1\ncounts\n0 11 0",
        )

    def test_blocks_without_rows(self):
        self.both(papers_text, read_papers, ((),), "goal")
        self.both(papers_text, read_papers, ((), (), ()), "goal\ngoal\ngoal")
        self.both(papers_text, read_papers, ((), ((0, AT, 0, 0),), ()), "goal\ngoal\n0 11 0 0\ngoal")
        self.both(plan_papers_text, read_plan_papers, ((), ((),)), "rows\ncounts")
        self.both(plan_papers_text, read_plan_papers, ((), ((), ((0, AT, 3),))), "rows\ncounts\ncounts\n0 11 3")
        self.both(plan_papers_text, read_plan_papers, (((0, AT, 3, 0),), ((),)), "rows\n0 11 3 0\ncounts")

    def test_whatever_numbers_and_positions(self):
        # In any order, also twice, of no room there is, of positions of unlike many looks.
        long = ((True,) * 6, False, False)
        rows = ((999999999, AT, 999999999, 999999999), (5, long, 0, 7), (5, long, 0, 7), (0, AT, 10, 0))
        text = "999999999 11 999999999 999999999\n5 11111100 0 7\n5 11111100 0 7\n0 11 10 0"
        self.both(papers_text, read_papers, (rows,), "goal\n" + text)
        counts = ((100000000, long, 999999999), (3, ((False,), False, True), 0))
        counts_text = "100000000 11111100 999999999\n3 001 0"
        self.both(plan_papers_text, read_plan_papers, (rows, (counts,)), f"rows\n{text}\ncounts\n{counts_text}")
        many = tuple(truth == 1 for truth in (0, 1, 1, 0) * 20)
        self.both(papers_text, read_papers, (((0, (many, True, False), 0, 0),),), "goal\n0 " + "0110" * 20 + "10 0 0")

    def test_of_machines_and_plans(self):
        for task, word, rooms in some_told(172, 100, 4):
            board = task[0]
            if word == "machine":
                paper = machine_papers(task, rooms)
                text = papers_text(paper)
                self.assertEqual(read_papers(text), paper)
                self.assertEqual(read_machine(board, machine_text(rooms)), rooms)
                self.assertTrue(shows_machine(task, read_machine(board, machine_text(rooms)), read_papers(text)))
            else:
                paper = plan_papers(task, rooms)
                text = plan_papers_text(paper)
                self.assertEqual(read_plan_papers(text), paper)
                self.assertEqual(read_plan(board, plan_text(rooms)), rooms)
                self.assertTrue(shows_plan(task, read_plan(board, plan_text(rooms)), read_plan_papers(text)))

    BAD_ROWS = (
        "", " ", "0", "0 11", "0 11 0 0 0", " 0 11 0 0", "0 11 0 0 ", "0  11 0 0", "0 11  0 0", "0 11 0  0",
        "00 11 0 0", "01 11 0 0", "0 11 00 0", "0 11 0 00", "0 11 01 0", "1000000000 11 0 0", "0 11 1000000000 0",
        "0 11 0 1000000000", "0 1 0 0", "0  0 0", "0 12 0 0", "0 1a 0 0", "0 1-1 0 0", "-1 11 0 0", "0 11 -1 0",
        "0 11 0 -1", "+1 11 0 0", "0, 11, 0, 0", "a 11 0 0", "0 11 a 0", "0 11 0 a", "0 11 0 0\r", "0\t11 0 0",
        "goal ", " goal", "Goal", "goals", "goal 0", "0 11 0 0 goal", "\u0660 11 0 0", "0 1\u0661 0 0",
        "0 11 0 \u00b2", "yes", "0 11 0.0 0", "rows ", " counts", "0 TrueTrue 0 0", "0 11 0_0 0",
    )

    def test_bad_rows(self):
        for row in self.BAD_ROWS + ("rows", "counts", "0 11 0"):
            for line in (2, 3, 5):
                rows = ["goal", "0 11 0 0", "1 01 2 0", "goal", "0 11 0 0"]
                rows[line - 1] = row
                self.bad(read_papers, "\n".join(rows), line)
            self.bad(read_papers, row, 1)
            self.bad(read_papers, row + "\ngoal", 1)
            self.bad(read_papers, "goal\n" + row, 2)

    def test_bad_rows_of_plans(self):
        for row in self.BAD_ROWS + ("goal", "0 11 0"):
            for line in (2, 3):
                rows = ["rows", "0 11 0 0", "1 01 2 0", "counts", "0 11 0"]
                rows[line - 1] = row
                self.bad(read_plan_papers, "\n".join(rows), line)
            self.bad(read_plan_papers, row, 1)
            self.bad(read_plan_papers, row + "\nrows\ncounts", 1)
        for row in self.BAD_ROWS + ("goal", "0 11 0 0", "rows", "0 11"):
            for line in (5, 6, 8):
                rows = ["rows", "0 11 0 0", "1 01 2 0", "counts", "0 11 0", "1 01 0", "counts", "0 11 0"]
                rows[line - 1] = row
                self.bad(read_plan_papers, "\n".join(rows), line)
        for row in ("01 11 0", "0 11 00", "0 1 0", "0 2 0", "0 11 1000000000", "0 11  0", "0 11 0 ", "0 11 -1"):
            self.bad(read_plan_papers, "rows\ncounts\n" + row, 3)

    def test_heads_that_are_lacking(self):
        for text in ("", "counts", "goal", "0 11 0 0", "0 11 0", "counts\nrows", "\nrows\ncounts", "rows "):
            self.bad(read_plan_papers, text, 1)
        for text, line in (
            ("rows", 2), ("rows\n0 11 0 0", 3), ("rows\n0 11 0 0\n1 11 0 0", 4), ("rows\nrows", 2), ("rows\n", 2),
            ("rows\n0 11 0 0\n", 3), ("rows\n0 11 0", 2), ("rows\n0 11 0\ncounts", 2), ("rows\ngoal", 2),
            ("rows\ncounts\n", 3), ("rows\ncounts\nrows", 3), ("rows\ncounts\n0 11 0\n\n", 4), ("rows\n\ncounts", 2),
        ):
            self.bad(read_plan_papers, text, line)
        for text, line in (
            ("", 1), ("rows", 1), ("counts", 1), ("0 11 0 0", 1), ("\ngoal", 1), ("goal\n", 2), ("goal\ngoal\n", 3),
            ("goal\n0 11 0 0\n", 3), ("goal\n\ngoal", 2), ("goal\nrows", 2), ("goal\n0 11 0 0\n0 11 0", 3),
        ):
            self.bad(read_papers, text, line)

    def test_words_at_random(self):
        numbers = Numbers(173)
        read = {True: 0, False: 0}
        for _ in range(3000):
            rows = [
                " ".join(numbers.one_of(WORDS) for _ in range(1 if numbers.below(3) == 0 else 3 + numbers.below(2)))
                for _ in range(numbers.below(3))
            ]
            for reading, writing, head in (
                (read_papers, papers_text, "goal"), (read_plan_papers, plan_papers_text, "rows"),
            ):
                text = "\n".join([head] + rows)
                try:
                    thing = reading(text)
                except BadText as refused:
                    self.assertEqual(refused.at, 0)
                    read[False] += 1
                    continue
                read[True] += 1
                self.assertEqual(writing(thing), text)
        self.assertGreater(min(read.values()), 200, read)


class Refused(Checks):
    def test_no_texts(self):
        for thing in [thing for thing in odd() if not isinstance(thing, str)]:
            self.bad(read_papers, thing, 1)
            self.bad(read_plan_papers, thing, 1)
            self.bad(read_machine, thing, 1, ONE)
            self.bad(read_plan, thing, 1, ONE)
        for thing in (b"goal", ["goal"], ("goal",), 0, {"goal": 1}):
            self.bad(read_papers, thing, 1)

    def test_very_long_ones(self):
        for text in ("0" * 100000, "0 " * 100000, "9" * 100000 + " 0, 0 0", "0 0, " * 100000, " " * 100000):
            self.bad(read_machine, text, 1, ONE)
            self.bad(read_plan, text, 1, ONE)
            self.bad(read_papers, "goal\n" + text, 2)
            self.bad(read_plan_papers, "rows\n" + text, 2)

    def test_rows_at_random(self):
        # What is read is written so.
        numbers = Numbers(174)
        signs = "001  :\n"
        found = 0
        for _ in range(20000):
            text = "".join(signs[numbers.below(len(signs))] for _ in range(1 + numbers.below(5)))
            for read, write, board in (
                (read_machine, machine_text, ((), ("x",))), (read_plan, plan_text, (("a",), ())),
            ):
                try:
                    thing = read(board, text)
                except BadText:
                    continue
                found += 1
                self.assertEqual(write(thing), text)
                self.assertLessEqual(letters_of(board[0]), 2)
        self.assertGreater(found, 20)


class Stays(Checks):
    def test_what_is_handed_in_stays(self):
        task = task_of("comes a\nanswers x\ngiven again a\nwanted again x and before a")
        machine = told(task)[1]
        paper = machine_papers(task, machine)
        first = papers_text(paper)
        self.assertEqual(papers_text(paper), first)
        self.assertEqual(machine_papers(task, machine), paper)
        self.assertEqual(told(task_by("given again a", "wanted again x and before a"))[1], machine)


if __name__ == "__main__":
    unittest.main()
