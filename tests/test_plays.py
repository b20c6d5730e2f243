"""62: a play goes along the told machine or plan, from its first room and the task's first position."""

import unittest

from test_keeper import BOARDS, SMALL, task_by
from things import A, Numbers, chain, odd, some_letters, some_task, wrong_numbers, wrong_tasks
from wishkeep.boards import letters_of
from wishkeep.errors import BadLetter, BadTask, TooGreat
from wishkeep.keeper import told
from wishkeep.memory import first_position, moved
from wishkeep.plays import Play
from wishkeep.reading import task_of
from wishkeep.tasks import goals_of


class Plain:
    """A play by told and moved alone."""

    def __init__(self, task):
        self.task = task
        self.word, self.rooms = told(task)
        self.room = 0
        self.position = first_position(task)
        self.gone = []
        self.counts = [[0] * len(goals_of(task, side)) for side in ("given", "wanted")]

    def letters(self):
        return letters_of(self.task[0][0 if self.word == "machine" else 1])

    def letter_next(self):
        return None if self.word == "machine" else self.rooms[self.room][0]

    def turn(self, letter):
        if self.word == "machine":
            told_back, behind = self.rooms[self.room][letter]
            turn = (letter, told_back)
        else:
            told_back, rooms = self.rooms[self.room]
            turn = (told_back, letter)
            behind = rooms[letter]
        self.room = behind
        self.position, met, other = moved(self.task, self.position, turn)
        for goal in met:
            self.counts[0][goal] += 1
        for goal in other:
            self.counts[1][goal] += 1
        self.gone.append(turn)
        return told_back


class Checks(unittest.TestCase):
    def same(self, play, plain):
        self.assertEqual(play.side(), plain.word)
        self.assertEqual(play.letter_next(), plain.letter_next())
        self.assertEqual(play.turns(), tuple(plain.gone))
        self.assertIsInstance(play.turns(), tuple)
        self.assertEqual(play.position_now(), plain.position)
        self.assertEqual(play.room_now(), plain.room)
        self.assertEqual(play.met(), tuple(tuple(counts) for counts in plain.counts))

    def go(self, play, plain, letters):
        """Goes letters one by one, and looks at all behind each."""
        for letter in letters:
            self.assertEqual(play.turn(letter), plain.turn(letter))
            self.same(play, plain)

    def check(self, task, numbers, many):
        """Goes some letters from the first room on."""
        play, plain = Play(task), Plain(task)
        self.same(play, plain)
        self.go(play, plain, some_letters(numbers, plain.letters(), many))
        return plain.word


class Turns(Checks):
    def test_of_a_machine(self):
        play = Play(task_by("given again a", "wanted again x and before a", "wanted always not x or before a"))
        self.assertEqual(play.side(), "machine")
        self.assertIsNone(play.letter_next())
        self.assertEqual(play.turns(), ())
        self.assertEqual(play.position_now(), ((False,), True, True))
        self.assertEqual(play.room_now(), 0)
        self.assertEqual(play.met(), ((0,), (0,)))
        self.assertEqual([play.turn(letter) for letter in (1, 0, 0)], [0, 1, 0])
        self.assertIsNone(play.letter_next())
        self.assertEqual(play.turns(), ((1, 0), (0, 1), (0, 0)))
        self.assertEqual(play.position_now(), ((False,), True, True))
        self.assertEqual(play.met(), ((1,), (1,)))

    def test_of_a_plan(self):
        task = task_by("given again a", "wanted again not a and before x", "wanted again not a and before not x")
        play, plain = Play(task), Plain(task)
        self.assertEqual(play.side(), "plan")
        self.go(play, plain, (0, 0, 1, 1, 0, 1, 0, 0, 0, 1, 1, 1))
        self.assertEqual([turn[1] for turn in play.turns()], [0, 0, 1, 1, 0, 1, 0, 0, 0, 1, 1, 1])

    def test_what_is_answered_is_free_of_a_plan(self):
        play = Play(task_by("wanted always a and x"))
        self.assertEqual(play.letter_next(), 0)
        self.assertEqual(play.turn(1), 0)
        self.assertEqual(play.turns(), ((0, 1),))
        self.assertEqual(play.position_now(), ((), True, False))
        self.assertEqual(play.met(), ((1,), (0,)))

    def test_goals_met_and_not_met_any_more(self):
        # The given goal isn't met any more once what is given always fell, the wanted one likewise.
        play = Play(task_by("given always not a", "given again yes", "wanted again not a", "wanted again yes"))
        self.assertEqual(play.side(), "machine")
        for letter in (0, 0, 1, 0, 1):
            play.turn(letter)
        self.assertEqual(play.met(), ((2,), (4 - 1, 5)))
        self.assertEqual(play.position_now(), ((), False, True))

    def test_some(self):
        numbers = Numbers(100)
        words = {}
        for _ in range(200):
            task = some_task(numbers, numbers.one_of(BOARDS), numbers.below(6), 3)
            try:
                word = self.check(task, numbers, 12)
            except TooGreat:
                self.assertRaises(TooGreat, told, task)
                continue
            words[word] = words.get(word, 0) + 1
        self.assertGreater(min(words["machine"], words["plan"]), 40, words)

    def test_hundreds_of_turns(self):
        numbers = Numbers(101)
        self.check(task_by("given again a", "wanted again x and before a", "wanted again not x"), numbers, 300)
        self.check(task_by("given again a", "wanted again not a and before a"), numbers, 300)
        self.check(task_by("wanted again a and before x"), numbers, 300)

    def test_without_rows(self):
        numbers = Numbers(102)
        for board in BOARDS:
            self.assertEqual(self.check((board, ()), numbers, 5), "machine")
            play = Play((board, ()))
            play.turn(0)
            self.assertEqual(play.met(), ((1,), (1,)))
            self.assertEqual(play.position_now(), ((), True, True))

    def test_without_names_on_a_side(self):
        numbers = Numbers(103)
        for text, word in (
            ("comes\nanswers x\nwanted again x\nwanted again not x", "machine"),
            ("comes\nanswers x\nwanted always x and not x", "plan"),
            ("comes a\nanswers\nwanted again a", "plan"),
            ("comes a\nanswers\ngiven again not a\nwanted again not a", "machine"),
            ("comes\nanswers\nwanted again before yes", "machine"),
            ("comes\nanswers\nwanted always before yes", "plan"),
        ):
            self.assertEqual(self.check(task_of(text), numbers, 8), word)

    def test_three_names_on_either_side(self):
        numbers = Numbers(104)
        names = "comes a b c\nanswers x y z\n"
        for text, word in (
            ("given again a and b\ngiven again c\nwanted again x and before a\nwanted again y and z", "machine"),
            ("given again a and b\ngiven again c\nwanted again x and before a\nwanted again b and c", "plan"),
        ):
            self.assertEqual(self.check(task_of(names + text), numbers, 60), word)


class Refused(Checks):
    def test_letters(self):
        tasks = [
            (task_by("wanted always x or not a"), 2), (task_by("wanted always a"), 2),
            (task_of("comes a b\nanswers\nwanted again a or not a"), 4),
            (task_of("comes a b\nanswers\nwanted again a"), 1),
            (task_of("comes\nanswers x y\nwanted again x"), 1), (task_of("comes\nanswers x y\nwanted always no"), 4),
        ]
        for task, many in tasks:
            play, plain = Play(task), Plain(task)
            self.go(play, plain, (0, many - 1))
            for wrong in wrong_numbers(many) + odd():
                self.assertRaises(BadLetter, play.turn, wrong)
            self.same(play, plain)
            self.go(play, plain, (many - 1, 0))

    def test_ahead_of_the_first_turn(self):
        for task in (task_by("wanted always x or not a"), task_by("wanted always a")):
            play, plain = Play(task), Plain(task)
            self.assertRaises(BadLetter, play.turn, 2)
            self.assertRaises(BadLetter, play.turn, True)
            self.same(play, plain)

    def test_bad_tasks(self):
        for thing in wrong_tasks():
            self.assertRaises(BadTask, Play, thing)

    def test_too_great(self):
        self.assertRaises(TooGreat, Play, (SMALL, (("wanted", "always", chain("before", 7, A)),)))
        again = "wanted again " + " or ".join(f"before {name}" for name in "abcxyz")
        names = "comes a b c\nanswers x y z\n"
        self.assertEqual(Play(task_of(f"{names}{again}\ngiven always not (a and b and x)")).side(), "machine")
        self.assertRaises(TooGreat, Play, task_of(f"{names}{again}\ngiven always a or b or x"))
        self.assertEqual(Play(task_of(names + (again + "\n") * 3)).side(), "machine")
        self.assertRaises(TooGreat, Play, task_of(names + (again + "\n") * 4))
        self.assertRaises(TooGreat, Play, task_of(names + (again.replace("wanted", "given") + "\n") * 4))


class Apart(Checks):
    TASKS = (
        task_by("given again a", "wanted again x and before a", "wanted again not x"),
        task_by("given again a", "wanted again not a and before x", "wanted again not a and before not x"),
    )

    def test_copied(self):
        numbers = Numbers(105)
        for task in self.TASKS:
            play, plain, other = Play(task), Plain(task), Plain(task)
            for letter in some_letters(numbers, 2, 7):
                play.turn(letter)
                plain.turn(letter)
                other.turn(letter)
            copy = play.copied()
            self.assertIsInstance(copy, Play)
            self.assertIsNot(copy, play)
            self.same(copy, plain)
            self.go(copy, other, (1, 0, 0, 1, 1))
            self.same(play, plain)
            self.go(play, plain, (0, 1, 1, 1, 0, 0, 0))
            self.same(copy, other)
            self.assertRaises(BadLetter, copy.turn, 2)
            again = copy.copied().copied()
            self.go(again, other, (1, 1))

    def test_copied_at_first(self):
        for task in self.TASKS + ((((), ()), ()), task_of("comes a b\nanswers\nwanted again a")):
            play, plain = Play(task), Plain(task)
            copy = play.copied()
            self.same(copy, plain)
            self.go(play, plain, (0, 0, 0))
            self.go(copy, Plain(task), (0, 0, 0, 0))
            self.same(play, plain)

    def test_two_side_by_side(self):
        numbers = Numbers(106)
        plays = [(Play(task), Plain(task)) for task in self.TASKS + self.TASKS]
        for _ in range(60):
            play, plain = numbers.one_of(plays)
            self.go(play, plain, some_letters(numbers, 2, 1))
        for play, plain in plays:
            self.same(play, plain)

    def test_told_again(self):
        task = task_by("given again a", "wanted again x and before a")
        play = Play(task)
        for letter in (1, 0, 1):
            play.turn(letter)
        for ask in (play.side, play.letter_next, play.turns, play.position_now, play.room_now, play.met):
            self.assertEqual(ask(), ask())
        early = (play.turns(), play.position_now(), play.met())
        play.turn(0)
        self.assertEqual(early, (early[0][:3], early[1], early[2]))
        self.assertEqual(play.turns()[:3], early[0])
        self.assertEqual(task, task_by("given again a", "wanted again x and before a"))
        for thing in early:
            self.assertIsInstance(thing, tuple)
        self.assertEqual([type(counts) for counts in play.met()], [tuple, tuple])


class Back(Checks):
    def test_taken_back(self):
        numbers = Numbers(107)
        for task in Apart.TASKS:
            play, plain = Play(task), Plain(task)
            self.assertIs(play.back(), False)
            self.same(play, plain)
            self.go(play, plain, (1, 0, 1))
            for letter in some_letters(numbers, 2, 5):
                play.turn(letter)
            copy = play.copied()
            for _ in range(5):
                self.assertIs(play.back(), True)
            self.same(play, plain)
            self.assertEqual(len(copy.turns()), 8)
            for _ in range(3):
                self.assertIs(play.back(), True)
            self.assertIs(play.back(), False)
            self.same(play, Plain(task))


if __name__ == "__main__":
    unittest.main()
