"""Desks: a play of a task, asked and told by lines."""

from wishkeep.boards import letters_of
from wishkeep.checker import shows_machine, shows_plan
from wishkeep.cores import core
from wishkeep.errors import BadNumber, BadText, NoMachine, TooGreat
from wishkeep.fewest import fewest
from wishkeep.meaning import is_kept, rows_failed
from wishkeep.noting import machine_text, number_in, plan_text
from wishkeep.papers import machine_papers, plan_papers
from wishkeep.plays import Play
from wishkeep.reading import loop_of, task_of
from wishkeep.writing import letter_text

# How many words each line has, by its first one; one that has a loop has as many or more.
WORDS_IN = {
    "who": 1, "come": 2, "next": 1, "answer": 2, "state": 1, "back": 1, "text": 1, "paper": 1, "loop": 2, "core": 1,
    "fewest": 2,
}
OF_A_MACHINE = ("come",)
OF_A_PLAN = ("next", "answer")


def line_words(line):
    """The words of a line; none if it is no line."""
    if not isinstance(line, str) or "\n" in line:
        return []
    words = line.split(" ")
    if "" in words or words[0] not in WORDS_IN:
        return []
    many = WORDS_IN[words[0]]
    return words if len(words) == many or (words[0] == "loop" and len(words) > many) else []


def yes_or_no(truth):
    """The word of a truth."""
    return "yes" if truth else "no"


def places_text(places):
    """Numbers with blanks between."""
    return " ".join([str(place) for place in places])


class Desk:
    """A desk with a play of a text's task."""

    def __init__(self, text):
        self.task = task_of(text)
        self.play = Play(self.task)

    def say(self, line):
        """What is said to a line."""
        words = line_words(line)
        if len(words) == 0:
            return "no line"
        if words[0] in OF_A_MACHINE and self.play.side() != "machine":
            return "no machine"
        if words[0] in OF_A_PLAN and self.play.side() != "plan":
            return "no plan"
        try:
            return self.said_to(words)
        except TooGreat:
            return "too great"

    def said_to(self, words):
        """What is said to the words of a line that fits who has the task."""
        word = words[0]
        if word == "who":
            return self.play.side()
        if word == "next":
            return f"come {letter_text(self.task[0][0], self.play.letter_next())}"
        if word == "state":
            return self.state()
        if word == "back":
            return "done" if self.play.back() else "nothing"
        if word == "text":
            return self.rooms_text().replace("\n", " / ")
        if word == "paper":
            return yes_or_no(self.has_paper())
        if word == "core":
            return self.core_text()
        if word == "fewest":
            return self.fewest_text(words[1])
        if word == "loop":
            return self.loop_said(" ".join(words[1:]))
        return self.turn_said(words[1])

    def turn_said(self, word):
        """Goes a turn by the letter of a word."""
        comes, answers = self.task[0]
        names = comes if self.play.side() == "machine" else answers
        letters = {letter_text(names, letter): letter for letter in range(letters_of(names))}
        if word not in letters:
            return "bad letter"
        told = self.play.turn(letters[word])
        return f"answer {letter_text(answers, told)}" if self.play.side() == "machine" else "done"

    def state(self):
        """How many turns were gone, and whether what is given and what is wanted always held so far."""
        _, given, wanted = self.play.position_now()
        return f"{len(self.play.turns())} {yes_or_no(given)} {yes_or_no(wanted)}"

    def rooms_text(self):
        """The text of the machine or the plan."""
        if self.play.side() == "machine":
            return machine_text(self.play.rooms)
        return plan_text(self.play.rooms)

    def has_paper(self):
        """Whether the paper of the machine or the plan is let by by the checker."""
        rooms = self.play.rooms
        if self.play.side() == "machine":
            return shows_machine(self.task, rooms, machine_papers(self.task, rooms))
        return shows_plan(self.task, rooms, plan_papers(self.task, rooms))

    def loop_said(self, text):
        """Whether the loop of a text keeps the task, and which rows fail on one that doesn't."""
        try:
            loop = loop_of(self.task[0], text)
        except BadText:
            return "bad loop"
        if is_kept(self.task, loop):
            return "kept"
        return f"broken {places_text(rows_failed(self.task, loop))}"

    def core_text(self):
        """The numbers of a core."""
        places = core(self.task)
        return "none" if places is None else places_text(places)

    def fewest_text(self, word):
        """How many rooms a machine needs at least, if no more than the number of a word."""
        try:
            return str(len(fewest(self.task, number_in(word))))
        except BadNumber:
            return "bad number"
        except NoMachine:
            return "none"
