"""A1, 61, S5: of every task just one is told, with a paper that the checker lets by; also by other names, and read."""

import unittest

from test_fewest import MOST
from test_keeper import BOARDS
from things import Numbers, some_task
from wishkeep.alike import alike, merged
from wishkeep.arena import arena_of
from wishkeep.boards import letters_of
from wishkeep.checker import shows_machine, shows_plan
from wishkeep.cores import core
from wishkeep.desk import Desk
from wishkeep.errors import NoMachine, NoPlan, TooGreat
from wishkeep.fewest import fewest
from wishkeep.games import others, ours
from wishkeep.keeper import has_it, machine_for, plan_for, told
from wishkeep.keeping import breaking, breaks, keeps, saving
from wishkeep.meaning import is_kept
from wishkeep.noting import (
    machine_text, papers_text, plan_papers_text, plan_text, read_machine, read_papers, read_plan, read_plan_papers,
)
from wishkeep.papers import machine_papers, plan_papers
from wishkeep.plans import loop_of_both
from wishkeep.plays import Play
from wishkeep.reading import task_of
from wishkeep.tasks import looks_of, renamed_task
from wishkeep.writing import task_text

WIDE = (("a", "b", "c"), ("x", "y", "z"))
PAIRS = (("a", "x"), ("x", "a"), ("b", "q"), ("c", "ring"), ("y", "b"), ("z", "lamp"))
# An error's name beside what makes it: of a task that one has, the other one has none.
WITHOUT = ((machine_for, NoMachine), (plan_for, NoPlan))


class Whole(unittest.TestCase):
    def tasks(self, seed, many, deep):
        """Tasks of all boards whose arenas aren't too great."""
        numbers = Numbers(seed)
        tasks = []
        while len(tasks) < many:
            task = some_task(numbers, numbers.one_of(BOARDS + (WIDE,)), numbers.below(8), deep)
            if len(looks_of(task)) <= 6:
                try:
                    arena_of(task)
                    tasks.append(task)
                except TooGreat:
                    self.assertRaises(TooGreat, told, task)
        return tasks

    def check_machine(self, task, machine):
        """Checks a machine that is told of a task."""
        paper = machine_papers(task, machine)
        self.assertIs(shows_machine(task, machine, paper), True)
        self.assertIs(keeps(task, machine), True)
        self.assertIsNone(breaking(task, machine))
        again = read_machine(task[0], machine_text(machine))
        self.assertIs(shows_machine(task, again, read_papers(papers_text(paper))), True)
        self.assertIn(0, ours(arena_of(task)))
        smaller = machine_for(task)
        self.assertIsNone(alike(smaller, machine))
        self.assertIs(shows_machine(task, smaller, machine_papers(task, smaller)), True)
        self.assertRaises(NoPlan, plan_for, task)
        self.check_fewest(task, smaller)

    def check_fewest(self, task, smaller):
        """Checks that the fewest rooms are no more than those of the told machine made smaller."""
        most = MOST[len(task[0][0]), len(task[0][1])]
        if most == 0:
            return
        try:
            machine = fewest(task, most)
        except NoMachine:
            self.assertGreater(len(smaller), most)
            return
        self.assertLessEqual(len(machine), len(smaller))
        self.assertEqual(merged(machine), machine)
        self.assertIs(shows_machine(task, machine, machine_papers(task, machine)), True)

    def check_plan(self, task, plan):
        """Checks a plan that is told of a task."""
        paper = plan_papers(task, plan)
        self.assertIs(shows_plan(task, plan, paper), True)
        self.assertIs(breaks(task, plan), True)
        self.assertIsNone(saving(task, plan))
        again = read_plan(task[0], plan_text(plan))
        self.assertIs(shows_plan(task, again, read_plan_papers(plan_papers_text(paper))), True)
        self.assertIn(0, others(arena_of(task)))
        smaller = plan_for(task)
        self.assertIs(shows_plan(task, smaller, plan_papers(task, smaller)), True)
        self.assertRaises(NoMachine, machine_for, task)
        # Some machines, each of which the plan breaks.
        answers = letters_of(task[0][1])
        for many in (1, 2, 3):
            machine = tuple(
                tuple(((came + room) % answers, (room + 1) % many) for came in range(letters_of(task[0][0])))
                for room in range(many)
            )
            self.assertIs(is_kept(task, loop_of_both(machine, smaller)), False)
            self.assertIs(keeps(task, machine), False)

    def test_just_one_is_told(self):
        words = {}
        for task in self.tasks(190, 260, 4):
            word, rooms = told(task)
            words[word] = words.get(word, 0) + 1
            self.assertIs(has_it(task), word == "machine")
            if word == "machine":
                self.check_machine(task, rooms)
            else:
                self.check_plan(task, rooms)
        self.assertGreater(min(words["machine"], words["plan"]), 60, words)

    def test_the_same_by_other_names(self):
        for task in self.tasks(191, 120, 3):
            other = renamed_task(task, PAIRS)
            self.assertEqual(told(other), told(task))
            for tell, error in WITHOUT:
                try:
                    rooms = tell(task)
                except error:
                    self.assertRaises(error, tell, other)
                    continue
                self.assertEqual(tell(other), rooms)
            self.assertEqual(renamed_task(other, tuple((new, old) for old, new in PAIRS)), task)

    def test_the_same_read_from_its_text(self):
        for task in self.tasks(192, 120, 4):
            text = task_text(task)
            self.assertEqual(task_of(text), task)
            word, rooms = told(task)
            self.assertEqual(told(task_of(text)), (word, rooms))
            desk = Desk(text)
            self.assertEqual(desk.say("who"), word)
            self.assertEqual(desk.say("paper"), "yes")
            written = machine_text(rooms) if word == "machine" else plan_text(rooms)
            self.assertEqual(desk.say("text"), written.replace("\n", " / "))

    def test_cores(self):
        seen = set()
        for task in self.tasks(193, 150, 3):
            if sum(row[0] == "wanted" for row in task[1]) > 5:
                self.assertRaises(TooGreat, core, task)
                continue
            try:
                places = core(task)
            except TooGreat:
                continue
            self.assertIs(places is None, has_it(task))
            seen.add(places is None)
            if places is not None:
                rows = tuple(row for place, row in enumerate(task[1]) if row[0] == "given" or place in places)
                self.assertIs(has_it((task[0], rows)), False)
                for place in places:
                    fewer = tuple(row for other, row in enumerate(task[1]) if row[0] == "given" or (
                        other in places and other != place
                    ))
                    self.assertIs(has_it((task[0], fewer)), True)
        self.assertEqual(len(seen), 2)

    def test_loops_of_plays(self):
        # Where the play stands where it stood, the turns between are a loop: so it keeps the task, or breaks it.
        numbers = Numbers(194)
        seen = set()
        for task in self.tasks(195, 80, 3):
            play = Play(task)
            many = letters_of(task[0][0 if play.side() == "machine" else 1])
            begins = {}
            while (play.room_now(), play.position_now()) not in begins:
                begins[play.room_now(), play.position_now()] = len(play.turns())
                play.turn(numbers.below(many))
            begin = begins[play.room_now(), play.position_now()]
            if len(play.turns()) <= 200:
                loop = (play.turns()[:begin], play.turns()[begin:])
                self.assertIs(is_kept(task, loop), play.side() == "machine", (task, loop))
                seen.add(play.side())
        self.assertEqual(len(seen), 2)


if __name__ == "__main__":
    unittest.main()
