"""N4: a desk says what its play, its papers and its task have, line by line."""

import unittest

from test_papers import some_tasks
from things import Numbers, odd
from wishkeep.boards import letters_of
from wishkeep.cores import core
from wishkeep.desk import Desk
from wishkeep.errors import BadText, NoMachine, TooGreat
from wishkeep.fewest import fewest
from wishkeep.keeper import told
from wishkeep.meaning import is_kept, rows_failed
from wishkeep.noting import machine_text, plan_text
from wishkeep.plays import Play
from wishkeep.reading import loop_of, task_of
from wishkeep.writing import letter_text, loop_text, task_text

KEPT = "comes a\nanswers x\ngiven again a\nwanted again x and before a\nwanted always not x or before a"
BROKEN = "comes a b\nanswers x y\ngiven again a\nwanted again x\nwanted again not a and not x\nwanted always a or b"
LINES_OF_ALL = ["who", "state", "back", "text", "paper", "loop | -/-", "core", "fewest 1"]


class Checks(unittest.TestCase):
    def says(self, desk, *pairs):
        """Checks what a desk says to one line after the other."""
        for line, said in pairs:
            self.assertEqual(desk.say(line), said, line)


class Lines(Checks):
    def test_of_a_machine(self):
        desk = Desk(KEPT)
        self.says(
            desk, ("who", "machine"), ("state", "0 yes yes"), ("come a", "answer -"), ("come -", "answer x"),
            ("state", "2 yes yes"), ("come -", "answer -"), ("come a", "answer -"), ("come a", "answer x"),
            ("state", "5 yes yes"), ("back", "done"), ("state", "4 yes yes"), ("come -", "answer x"),
        )

    def test_of_a_plan(self):
        desk = Desk("comes a b\nanswers x y\nwanted always a or b or x and not y\nwanted again a")
        self.says(
            desk, ("who", "plan"), ("state", "0 yes yes"), ("next", "come -"), ("answer x", "done"),
            ("state", "1 yes yes"), ("next", "come -"), ("answer x+y", "done"), ("state", "2 yes no"),
            ("answer -", "done"), ("answer y", "done"), ("state", "4 yes no"), ("back", "done"), ("back", "done"),
            ("state", "2 yes no"), ("back", "done"), ("state", "1 yes yes"),
        )

    def test_lines_of_the_other_kind(self):
        desk = Desk(KEPT)
        for line in ("next", "answer x", "answer -", "answer b", "answer zzzzzzzzz", "answer 1"):
            self.says(desk, (line, "no plan"))
        for line in ("next x", "answer", "answer x x", "next ", "answer  x"):
            self.says(desk, (line, "no line"))
        desk = Desk(BROKEN)
        for line in ("come a", "come -", "come x", "come zzzzzzzzz", "come 1"):
            self.says(desk, (line, "no machine"))
        for line in ("come", "come a a", "come ", "come  a", " come a", "come a\n"):
            self.says(desk, (line, "no line"))
        self.says(desk, ("state", "0 yes yes"), ("back", "nothing"))

    def test_state_of_given_and_wanted_that_fell(self):
        desk = Desk("comes a b\nanswers x\ngiven always not a\nwanted always not b or a or x")
        self.says(
            desk, ("who", "machine"), ("state", "0 yes yes"), ("come -", "answer -"), ("state", "1 yes yes"),
            ("come a", "answer -"), ("state", "2 no yes"), ("come -", "answer -"), ("state", "3 no yes"),
            ("back", "done"), ("back", "done"), ("state", "1 yes yes"),
        )
        desk = Desk("comes a\nanswers x\nwanted always not a\ngiven again a or not a")
        self.says(desk, ("who", "plan"), ("next", "come a"), ("answer x", "done"), ("state", "1 yes no"))
        desk = Desk("comes a\nanswers\ngiven always a\nwanted always a")
        self.says(
            desk, ("come a", "answer -"), ("come a", "answer -"), ("state", "2 yes yes"), ("come -", "answer -"),
            ("state", "3 no no"), ("come a", "answer -"), ("state", "4 no no"), ("back", "done"), ("back", "done"),
            ("state", "2 yes yes"),
        )
        self.says(desk, ("come -", "answer -"), ("back", "done"), ("state", "2 yes yes"))

    def test_back_up_to_the_begin(self):
        for text, line in ((KEPT, "come a"), (BROKEN, "answer x")):
            desk = Desk(text)
            self.says(desk, ("back", "nothing"), ("state", "0 yes yes"))
            for _ in range(3):
                desk.say(line)
            self.says(
                desk, ("back", "done"), ("back", "done"), ("back", "done"), ("back", "nothing"), ("back", "nothing"),
                ("state", "0 yes yes"),
            )

    def test_text(self):
        for text in (KEPT, BROKEN, "comes\nanswers", "comes a\nanswers", "comes\nanswers x\nwanted always no"):
            word, rooms = told(task_of(text))
            written = machine_text(rooms) if word == "machine" else plan_text(rooms)
            self.says(Desk(text), ("who", word), ("text", written.replace("\n", " / ")))
        self.says(Desk("comes\nanswers"), ("text", "0 0"))
        self.says(Desk("comes a\nanswers x\nwanted always no"), ("who", "plan"))
        self.assertIn(" / ", Desk(KEPT).say("text"))

    def test_paper(self):
        for text in (KEPT, BROKEN, "comes\nanswers"):
            self.says(Desk(text), ("paper", "yes"))

    def test_loops(self):
        for text in (KEPT, BROKEN):
            desk = Desk(text)
            task = task_of(text)
            for loop in ("| -/-", "a/x | a/x", "| a/- -/x", "a/- a/x | -/x", "-/x | a/-", "| -/x -/x", "| a/x -/-"):
                failed = rows_failed(task, loop_of(task[0], loop))
                if is_kept(task, loop_of(task[0], loop)):
                    self.says(desk, (f"loop {loop}", "kept"))
                else:
                    self.says(desk, (f"loop {loop}", " ".join(["broken"] + [str(place) for place in failed])))
        self.says(
            Desk(KEPT), ("loop | a/-", "broken 1"), ("loop | a/x", "broken 2"), ("loop a/- | a/x", "kept"),
            ("loop | -/x", "kept"), ("loop -/x | a/-", "broken 1 2"), ("loop | a/- -/x", "kept"),
        )
        self.says(Desk(BROKEN), ("loop | a/-", "broken 1 2"), ("loop | a/- -/-", "broken 1 3"), ("loop | b/x", "kept"))

    def test_bad_loops(self):
        for text, lines in (
            (KEPT, ("a", "|", "a/-", "a/- |", "| a/- | -/-", "| b/-", "| a/a", "| a/-,", "- -", "|a/-", "| x/a", "loop",
                    "| a/x\t", "a" * 9999)),
            (BROKEN, ("| b+a/-", "| a+a/-", "| a/y+x", "| a+b", "| a+b/x+y/x", "| /", "1/1")),
        ):
            desk = Desk(text)
            for line in lines:
                self.says(desk, (f"loop {line}", "bad loop"))
        many = "a/- " * 200
        self.says(Desk(KEPT), (f"loop {many}| {many}".rstrip(), "broken 1"))
        self.says(Desk(KEPT), (f"loop a/- {many}| a/-", "bad loop"), (f"loop | a/- {many}".rstrip(), "bad loop"))

    def test_core(self):
        self.says(Desk(KEPT), ("core", "none"))
        self.says(Desk("comes\nanswers"), ("core", "none"))
        self.says(Desk("comes a\nanswers x\nwanted always x\ngiven again a\nwanted again not x"), ("core", "0 2"))
        rows = "wanted always x or y\nwanted always not x\ngiven again a\nwanted always not y"
        self.says(Desk(f"comes a\nanswers x y\n{rows}"), ("core", "0 1 3"))
        self.says(Desk("comes a\nanswers x\n" + "wanted always x\n" * 6), ("core", "too great"), ("who", "machine"))
        self.says(Desk("comes a\nanswers x\n" + "wanted always a\n" * 6), ("core", "too great"), ("who", "plan"))

    def test_fewest(self):
        desk = Desk(KEPT)
        self.says(desk, ("fewest 1", "none"), ("fewest 2", "2"), ("fewest 3", "2"), ("fewest 4", "too great"))
        self.says(desk, ("fewest 8", "too great"))
        self.says(Desk("comes\nanswers"), ("fewest 6", "1"), ("fewest 7", "too great"), ("fewest 1", "1"))
        self.says(Desk("comes a\nanswers x\nwanted always a"), ("fewest 3", "none"), ("fewest 4", "too great"))

    def test_bad_numbers(self):
        for text in (KEPT, BROKEN, "comes a b c\nanswers x y z"):
            desk = Desk(text)
            for word in (
                "0", "9", "10", "00", "01", "+1", "-1", "1.0", "one", "-", "a", "1,", "1_0", "0x1", "true", "None",
                "\u0661", "\u00b2", "999999999", "1000000000", "9" * 5000, "1" * 100000, "\t1", "1\r",
            ):
                self.says(desk, (f"fewest {word}", "bad number"))

    def test_bad_letters(self):
        desk = Desk(KEPT)
        for word in ("b", "x", "aa", "a+a", "a+", "+a", "+", "--", "a+-", "A", "0", "1", "a/", "a" * 100000, "a\t"):
            self.says(desk, (f"come {word}", "bad letter"), ("state", "0 yes yes"))
        desk = Desk(BROKEN)
        for word in ("a", "y+x", "x+x", "x+y+x", "x+", "x+y+", "x,y", "xy", "-+x", "x-", "z", "\u00b2", "3"):
            self.says(desk, (f"answer {word}", "bad letter"), ("state", "0 yes yes"))
        self.says(desk, ("answer x+y", "done"), ("answer y", "done"), ("state", "2 yes no"))

    def test_letters_as_they_are_written(self):
        for text in ("comes a b c\nanswers x y z\nwanted again x or a", "comes a b\nanswers x y z\nwanted always a",
                     "comes\nanswers x\nwanted again x", "comes a\nanswers", "comes\nanswers\nwanted always no"):
            task = task_of(text)
            desk, play = Desk(text), Play(task)
            word = "come" if play.side() == "machine" else "answer"
            names = task[0][0 if play.side() == "machine" else 1]
            for letter in range(letters_of(names)):
                said = desk.say(f"{word} {letter_text(names, letter)}")
                told_back = play.turn(letter)
                if word == "come":
                    self.assertEqual(said, f"answer {letter_text(task[0][1], told_back)}")
                else:
                    self.assertEqual(said, "done")
                    self.says(desk, ("next", f"come {letter_text(task[0][0], play.letter_next())}"))
            self.assertEqual(desk.say("state").split(" ")[0], str(letters_of(names)))


class NoLines(Checks):
    LINES = (
        "", " ", "  ", "\n", "w", "whose", "who?", "Who", "WHO", "who who", "who ", " who", "who\n", "\nwho",
        "who\nstate", "come", "come ", "come a b", "come  a", "come a ", " come a", "come a\n", "comea", "come\ta",
        "next a", "next ", "answer", "answer x x", "answer  x", "state 1", "state\n", "back 1", "back back", "text a",
        "paper 1", "paper\n", "loop", "loop ", "loop  | a/-", "loop | a/-  a/-", "loop | a/- ", " loop | a/-",
        "loop | a/-\n", "loop |\na/-", "core 1", "core ", "fewest", "fewest ", "fewest 1 2", "fewest  1", "fewest 1 ",
        "fewest 1\n", "fewest\n1", "none", "done", "machine", "yes", "no line", "quit", "0", "who\t", "\twho",
        "a" * 100000, " " * 100000, "who " * 100000, "loop " + "a " * 100000,
    )

    def test_no_lines(self):
        for text in (KEPT, BROKEN):
            desk = Desk(text)
            for line in self.LINES:
                self.says(desk, (line, "no line"))
            self.says(desk, ("state", "0 yes yes"))

    def test_no_texts(self):
        for text in (KEPT, BROKEN):
            desk = Desk(text)
            for thing in [thing for thing in odd() if not isinstance(thing, str)] + [b"who", ["who"], ("who",), 0, 1.0]:
                self.assertEqual(desk.say(thing), "no line")
            self.says(desk, ("state", "0 yes yes"))


class Refused(unittest.TestCase):
    def bad(self, text, line, at):
        with self.assertRaises(BadText) as caught:
            Desk(text)
        self.assertEqual((caught.exception.line, caught.exception.at), (line, at))

    def test_texts(self):
        self.bad("", 1, 0)
        self.bad("comes a", 1, 7)
        self.bad("comes a\nanswers a", 2, 8)
        self.bad("comes a\nanswers x\nwanted always", 3, 13)
        self.bad("comes a\nanswers x\nwanted always b", 3, 14)
        self.bad("comes a\nanswers x\n" + "wanted always a\n" * 9, 11, 0)
        for thing in [thing for thing in odd() if not isinstance(thing, str)]:
            self.bad(thing, 1, 0)

    def test_too_great(self):
        again = "wanted again " + " or ".join(f"before {name}" for name in "abcxyz")
        names = "comes a b c\nanswers x y z\n"
        for text in (
            "comes a\nanswers x\nwanted always " + "before " * 7 + "a",
            "comes a\nanswers x\nwanted always " + "not " * 20 + "a",
            f"{names}{again}\ngiven always a or b or x", names + (again + "\n") * 4,
        ):
            self.assertRaises(TooGreat, Desk, text)
        self.assertEqual(Desk(f"{names}{again}\ngiven always not (a and b and x)").say("who"), "machine")


class Many(Checks):
    def test_some(self):
        numbers = Numbers(180)
        words = set()
        for task in some_tasks(181, 90, 3):
            try:
                play = Play(task)
            except TooGreat:
                self.assertRaises(TooGreat, Desk, task_text(task))
                continue
            words.add(play.side())
            self.follow(numbers, task, Desk(task_text(task)), play)
        self.assertEqual(words, {"machine", "plan"})

    def follow(self, numbers, task, desk, play):
        """Says some lines, and does the same with the play."""
        comes, answers = task[0]
        names = comes if play.side() == "machine" else answers
        word = "come" if play.side() == "machine" else "answer"
        plays = [play]
        for _ in range(12):
            if numbers.below(4) == 0:
                self.says(desk, ("back", "nothing" if len(plays) == 1 else "done"))
                plays = plays[:max(1, len(plays) - 1)]
            else:
                letter = numbers.below(letters_of(names))
                plays.append(plays[-1].copied())
                told_back = plays[-1].turn(letter)
                said = "done" if word == "answer" else f"answer {letter_text(answers, told_back)}"
                self.says(desk, (f"{word} {letter_text(names, letter)}", said))
            _, given, wanted = plays[-1].position_now()
            words = [str(len(plays[-1].turns()))] + ["yes" if truth else "no" for truth in (given, wanted)]
            self.says(desk, ("state", " ".join(words)))
            if word == "answer":
                self.says(desk, ("next", f"come {letter_text(comes, plays[-1].letter_next())}"))
        self.asked(task, desk, plays[-1].turns())

    def asked(self, task, desk, turns):
        """Asks for a core, the fewest rooms and whether loops keep the task."""
        if len([row for row in task[1] if row[0] == "wanted"]) <= 5:
            places = core(task)
            self.says(desk, ("core", "none" if places is None else " ".join(str(place) for place in places)))
        try:
            self.says(desk, ("fewest 1", str(len(fewest(task, 1)))))
        except NoMachine:
            self.says(desk, ("fewest 1", "none"))
        if turns:
            loop = (turns[:-1], turns[-1:])
            said = "kept"
            if not is_kept(task, loop):
                said = "broken " + " ".join(str(place) for place in rows_failed(task, loop))
            self.says(desk, (f"loop {loop_text(task[0], loop)}", said))

    def test_what_is_refused_or_asked_changes_nothing(self):
        for text, line, others in ((KEPT, "come a", ["next", "answer x", "come b"]),
                                   (BROKEN, "answer x", ["come a", "answer a", "next"])):
            desk, other = Desk(text), Desk(text)
            for _ in range(4):
                self.assertEqual(desk.say(line), other.say(line))
                for asked in LINES_OF_ALL + others + ["who who", "loop a", "fewest 9"]:
                    if asked != "back":
                        desk.say(asked)
                self.assertEqual(desk.say("state"), other.say("state"))
            for asked in LINES_OF_ALL[:1] + LINES_OF_ALL[3:]:
                self.assertEqual(desk.say(asked), other.say(asked))

    def test_hundreds_of_turns(self):
        desk, play = Desk(KEPT), Play(task_of(KEPT))
        numbers = Numbers(182)
        for _ in range(300):
            letter = numbers.below(2)
            said = desk.say(f"come {'-a'[letter]}")
            self.assertEqual(said, f"answer {'-x'[play.turn(letter)]}")
        self.says(desk, ("state", "300 yes yes"))
        for _ in range(300):
            self.says(desk, ("back", "done"))
        self.says(desk, ("back", "nothing"))

    def test_two_side_by_side(self):
        one, other, third = Desk(KEPT), Desk(KEPT), Desk(BROKEN)
        self.says(one, ("come a", "answer -"), ("come a", "answer x"))
        self.says(other, ("state", "0 yes yes"), ("come -", "answer -"))
        self.says(third, ("answer x", "done"))
        self.says(one, ("state", "2 yes yes"), ("back", "done"))
        self.says(other, ("state", "1 yes yes"), ("back", "done"), ("back", "nothing"))
        self.says(third, ("state", "1 yes no"))
        self.says(one, ("state", "1 yes yes"), ("come a", "answer x"))


if __name__ == "__main__":
    unittest.main()
