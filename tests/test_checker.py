"""S3 to S5: whether anything is a paper of a machine or a plan, seen by single moves."""

import unittest

from plain import (
    Moves, plainly_shows_machine, plainly_shows_plan, steps_of_machine, steps_of_plan, wide_machine_papers,
    wide_plan_papers,
)
from test_keeper import SMALL, task_by
from test_papers import COPY, LATE, NOTHING, ring_machine, ring_plan, some_tasks, some_told
from things import A, YES, Numbers, chain, odd, some_machine, some_plan, wrong_tasks
from wishkeep.checker import shows_machine, shows_plan
from wishkeep.errors import BadMachine, BadPlan, BadTask, TooGreat
from wishkeep.papers import machine_papers, plan_papers
from wishkeep.reading import task_of
from wishkeep.tasks import looks_of

HUGE = 10 ** 400
SAYS = ("given again a", "wanted again x", "wanted always not x or before a")
ASKS = ("given again a", "given again not a", "wanted again x and before a", "wanted again a and before a")
TURNS = ((1, (1, 1)), (0, (0, 0)))


def positions_of(task):
    """All positions of a task, whatever leads there."""
    truths = [()]
    for _ in range(len(looks_of(task)) + 2):
        truths = [so + (truth,) for so in truths for truth in (False, True)]
    return [(so[:-2], so[-2], so[-1]) for so in truths]


def all_pairs(task, rooms):
    """All pairs of rooms and positions, whatever leads there."""
    return [(room, position) for room in range(len(rooms)) for position in positions_of(task)]


def with_at(thing, path, change):
    """A thing in which one, at the end of a path of places, is changed."""
    if path == ():
        return change(thing)
    place = path[0]
    return thing[:place] + (with_at(thing[place], path[1:], change),) + thing[place + 1:]


def paths_in(thing, path=()):
    """The paths to all within a thing of tuples, and to itself."""
    paths = [path]
    if isinstance(thing, tuple):
        for place, inner in enumerate(thing):
            paths += paths_in(inner, path + (place,))
    return paths


def at_path(thing, path):
    """What stands at the end of a path."""
    for place in path:
        thing = thing[place]
    return thing


def other_kinds(thing):
    """The same in other kinds, and other things of its kind."""
    if isinstance(thing, bool):
        return [not thing, int(thing), None, (thing,), str(thing)]
    if isinstance(thing, int):
        return [thing + 1, thing - 1, thing + 5, -1, -HUGE, thing == 1, None, str(thing), float(thing), (thing,)]
    return [list(thing), thing + (thing[:1] or (0,)), thing[:-1] or None, (thing,), dict(enumerate(thing)), set(), None]


class Checks(unittest.TestCase):
    def machine(self, task, machine, thing, shown=None):
        """Checks that a thing is a paper of the machine just where the words say so."""
        plainly = plainly_shows_machine(task, machine, thing)
        if shown is not None:
            self.assertIs(plainly, shown, (task, machine, thing))
        self.assertIs(shows_machine(task, machine, thing), plainly, (task, machine, thing))
        return plainly

    def plan(self, task, plan, thing, shown=None):
        plainly = plainly_shows_plan(task, plan, thing)
        if shown is not None:
            self.assertIs(plainly, shown, (task, plan, thing))
        self.assertIs(shows_plan(task, plan, thing), plainly, (task, plan, thing))
        return plainly

    def machine_sample(self):
        """A task, a machine that keeps it, and its paper."""
        task = task_by(*SAYS)
        machine = (((0, 0), (0, 1)), ((1, 0), (1, 1)))
        return (task, machine, machine_papers(task, machine))

    def plan_sample(self):
        """A task, a plan by which every machine breaks it, and its paper."""
        task = task_by(*ASKS)
        return (task, TURNS, plan_papers(task, TURNS))


class Papers(Checks):
    def test_each_that_is_told(self):
        numbers = Numbers(130)
        seen = {}
        for task in some_tasks(131, 400, 3):
            machine = some_machine(numbers, task[0], 1 + numbers.below(4))
            paper = machine_papers(task, machine)
            self.machine(task, machine, paper, paper is not None)
            plan = some_plan(numbers, task[0], 1 + numbers.below(4))
            other = plan_papers(task, plan)
            self.plan(task, plan, other, other is not None)
            for word in (("machine", paper is None), ("plan", other is None)):
                seen[word] = seen.get(word, 0) + 1
        self.assertGreater(min(seen.values()), 50)

    def test_of_what_is_told_of_a_task(self):
        for task, word, rooms in some_told(132, 120, 4):
            if word == "machine":
                self.machine(task, rooms, machine_papers(task, rooms), True)
            else:
                self.plan(task, rooms, plan_papers(task, rooms), True)

    def test_with_pairs_and_rooms_that_are_not_come_to(self):
        numbers = Numbers(133)
        seen = {}
        for task in some_tasks(134, 300, 3):
            machine = some_machine(numbers, task[0], 1 + numbers.below(5))
            paper = wide_machine_papers(task, machine, all_pairs(task, machine))
            self.assertIs(paper is None, machine_papers(task, machine) is None)
            if paper is not None:
                self.machine(task, machine, paper, True)
                some = paper != machine_papers(task, machine) and len(paper[0]) > len(machine_papers(task, machine)[0])
                seen["machine", some] = seen.get(("machine", some), 0) + 1
            plan = some_plan(numbers, task[0], 1 + numbers.below(5))
            paper = wide_plan_papers(task, plan, all_pairs(task, plan))
            self.assertIs(paper is None, plan_papers(task, plan) is None)
            if paper is not None:
                self.plan(task, plan, paper, True)
                some = len(paper[0]) > len(plan_papers(task, plan)[0])
                seen["plan", some] = seen.get(("plan", some), 0) + 1
        self.assertGreater(seen["machine", True], 50, seen)
        self.assertGreater(seen["plan", True], 20, seen)

    def test_just_the_pairs_of_one_wanted_goal_more(self):
        # The papers of several wanted goals needn't have rows of the same pairs.
        task = (NOTHING, (("wanted", "again", YES), ("wanted", "again", ("not", ("no",)))))
        machine = ring_machine(1) * 2
        at = ((), True, True)
        self.machine(task, machine, (((0, at, 0, 0),), ((0, at, 0, 0),)), True)
        self.machine(task, machine, (((0, at, 0, 0),), ((0, at, 0, 0), (1, at, 5, 0))), True)
        self.machine(task, machine, (((0, at, 0, 0), (1, at, 5, 0)), ((0, at, HUGE, 0),)), True)
        self.machine(task, machine, (((0, at, 0, 0),), ((1, at, 5, 0),)), False)
        self.machine(task, machine, (((0, at, 0, 0),), ()), False)

    def test_counts_of_the_same_pairs(self):
        task = (NOTHING, (("wanted", "always", ("no",)), ("given", "again", YES), ("given", "again", ("not", ("no",)))))
        first, fell = ((), True, True), ((), True, False)
        rows = ((0, fell, 0, 0), (0, first, 1, 0))
        counts = ((0, fell, 0), (0, first, 0))
        plan = ((0, (0,)), (0, (0,)))
        self.plan(task, plan, (rows, (counts, counts)), True)
        self.plan(task, plan, (rows, (counts, ((0, fell, HUGE), (0, first, 7)))), True)
        self.plan(task, plan, (rows, (counts, counts[1:])), False)
        self.plan(task, plan, (rows, (counts + ((1, fell, 0),), counts)), False)
        self.plan(task, plan, (rows + ((1, fell, 3, 0),), (counts, counts)), False)
        self.plan(task, plan, (rows + ((1, fell, 3, 0),), (counts + ((1, fell, 0),),) * 2), True)
        self.plan(task, plan, (rows, (counts, ((1, fell, 0), (1, first, 0)))), False)

    def test_numbers_of_many_figures(self):
        task, machine, paper = self.machine_sample()
        grown = tuple(tuple(row[:2] + (row[2] * HUGE + HUGE,) + row[3:] for row in rows) for rows in paper)
        self.machine(task, machine, grown, True)
        self.machine(task, machine, with_at(grown, (0, 0, 3), lambda goal: HUGE), False)
        self.machine(task, machine, with_at(grown, (0, 0, 0), lambda room: HUGE), False)
        task, plan, (rows, counts) = self.plan_sample()
        grown = tuple(row[:2] + (row[2] * HUGE + HUGE,) + row[3:] for row in rows)
        self.plan(task, plan, (grown, counts), True)
        more = tuple(tuple(row[:2] + (row[2] * HUGE + HUGE,) for row in some) for some in counts)
        self.plan(task, plan, (grown, more), True)

    def test_more_rows_than_1200(self):
        for many in (1201, 4096):
            at = ((), True, True)
            rows = tuple((room, at, 3, 0) for room in range(many))
            task = (NOTHING, (("wanted", "again", YES),))
            machine = ring_machine(many)
            self.machine(task, machine, (rows,), True)
            self.machine(task, machine, (rows[:-1],), False)
            task = (NOTHING, (("wanted", "again", ("no",)),))
            self.machine(task, machine, (rows,), False)
            counts = tuple(row[:3] for row in rows)
            self.plan(task, ring_plan(many), (rows, (counts,)), True)
            self.plan(task, ring_plan(many), (rows[:-1], (counts[:-1],)), False)
            self.plan(task, ring_plan(many), (with_at(rows, (many - 1, 2), lambda number: 2), (counts,)), False)
            # Where the given goal is never met counts can't fall without end.
            task = (NOTHING, (("wanted", "again", ("no",)), ("given", "again", ("no",))))
            self.plan(task, ring_plan(many), (rows, (counts,)), False)
            self.machine(task, machine, (rows,), True)


class Otherwise(Checks):
    def test_each_place_otherwise(self):
        for shown, sample in ((self.machine, self.machine_sample()), (self.plan, self.plan_sample())):
            task, rooms, paper = sample
            shown(task, rooms, paper, True)
            seen = {True: 0, False: 0}
            for path in paths_in(paper):
                for thing in other_kinds(at_path(paper, path)):
                    seen[shown(task, rooms, with_at(paper, path, lambda _: thing))] += 1
            self.assertGreater(seen[False], 100)
            self.assertGreater(seen[True], 0)

    def test_rows_left_out_told_twice_or_in_another_order(self):
        for shown, (task, rooms, paper) in ((self.machine, self.machine_sample()), (self.plan, self.plan_sample())):
            for path in [path for path in paths_in(paper) if path and isinstance(at_path(paper, path[:-1])[-1], tuple)]:
                above, place = path[:-1], path[-1]
                for change in (
                    lambda some: some[:place] + some[place + 1:],
                    lambda some: some[:place + 1] + some[place:],
                    lambda some: some[::-1],
                    lambda some: some[place:] + some[:place],
                ):
                    thing = with_at(paper, above, change)
                    if thing != paper:
                        shown(task, rooms, thing)

    def test_a_pair_told_twice_with_other_numbers(self):
        task, machine, paper = self.machine_sample()
        for goal, rows in enumerate(paper):
            for place, row in enumerate(rows):
                twice = rows[:place + 1] + (row[:2] + (row[2] + 1,) + row[3:],) + rows[place + 1:]
                self.assertEqual(list(twice), sorted(twice))
                self.machine(task, machine, paper[:goal] + (twice,) + paper[goal + 1:], False)
        task, plan, (rows, counts) = self.plan_sample()
        twice = rows[:1] + (rows[0][:2] + (rows[0][2] + 1, 0),) + rows[1:]
        self.plan(task, plan, (twice, counts), False)
        self.plan(task, plan, (rows, (counts[0][:1] + (counts[0][0][:2] + (9,),) + counts[0][1:],) + counts[1:]), False)

    def test_some_changes(self):
        numbers = Numbers(135)
        seen = {}
        for task in some_tasks(136, 250, 3):
            machine = some_machine(numbers, task[0], 1 + numbers.below(3))
            plan = some_plan(numbers, task[0], 1 + numbers.below(3))
            for word, shown, rooms, paper in (
                ("machine", self.machine, machine, machine_papers(task, machine)),
                ("plan", self.plan, plan, plan_papers(task, plan)),
            ):
                if paper is None:
                    continue
                paths = paths_in(paper)
                for _ in range(12):
                    path = numbers.one_of(paths)
                    thing = numbers.one_of(other_kinds(at_path(paper, path)))
                    key = (word, shown(task, rooms, with_at(paper, path, lambda _: thing)))
                    seen[key] = seen.get(key, 0) + 1
        self.assertEqual(len(seen), 4)
        self.assertGreater(min(seen.values()), 3, seen)

    def test_numbers_and_goals_at_random(self):
        # Rows of just the right pairs, in which only numbers and goals are otherwise.
        numbers = Numbers(137)
        seen = {}
        for task in some_tasks(138, 400, 2):
            given, wanted = [max(1, sum(row[:2] == (side, "again") for row in task[1])) for side in ("given", "wanted")]
            machine = some_machine(numbers, task[0], 1 + numbers.below(2))
            pairs = sorted(Moves(task, steps_of_machine, machine).pairs())
            plan = some_plan(numbers, task[0], 1 + numbers.below(2))
            others = sorted(Moves(task, steps_of_plan, plan).pairs())
            for _ in range(6):
                paper = tuple(
                    tuple(pair + (numbers.below(2), numbers.below(given)) for pair in pairs) for _ in range(wanted)
                )
                key = ("machine", self.machine(task, machine, paper))
                seen[key] = seen.get(key, 0) + 1
                rows = tuple(pair + (numbers.below(2), numbers.below(wanted)) for pair in others)
                counts = tuple(tuple(pair + (numbers.below(3),) for pair in others) for _ in range(given))
                key = ("plan", self.plan(task, plan, (rows, counts)))
                seen[key] = seen.get(key, 0) + 1
        self.assertEqual(len(seen), 4)
        self.assertGreater(min(seen.values()), 20, seen)

    def test_of_another_machine_or_plan(self):
        task, machine, paper = self.machine_sample()
        self.machine(task, COPY, paper, False)
        self.machine(task, machine + COPY, paper, True)
        self.machine(task_by(*SAYS[:2]), machine, paper, False)
        self.machine(task, machine, self.plan_sample()[2], False)
        task, plan, paper = self.plan_sample()
        self.plan(task, plan[::-1], paper)
        self.plan(task, plan + plan, paper, True)
        self.plan(task, plan, self.machine_sample()[2], False)

    def test_things_of_other_kinds(self):
        task, machine, paper = self.machine_sample()
        other, plan, its_paper = self.plan_sample()
        places = [(), (0,), (0, 0), (0, 0, 0), (0, 0, 1), (0, 0, 1, 0), (0, 0, 1, 0, 0), (0, 0, 1, 1), (0, 0, 1, 2)]
        places += [(0, 0, 2), (0, 0, 3)]
        for thing in odd():
            for path in places:
                if not isinstance(thing, bool) or path not in ((0, 0, 1, 0, 0), (0, 0, 1, 1), (0, 0, 1, 2)):
                    if path != (0, 0, 2) or type(thing) is not int or thing < 0:
                        self.assertIs(shows_machine(task, machine, with_at(paper, path, lambda _: thing)), False)
            for path in places[:-2] + [(0, 0, 3), (1,), (1, 0), (1, 0, 0), (1, 0, 0, 0), (1, 0, 0, 1), (1, 0, 0, 1, 0)]:
                if not isinstance(thing, bool) or path not in ((0, 0, 1, 0, 0), (0, 0, 1, 1), (0, 0, 1, 2)):
                    self.assertIs(shows_plan(other, plan, with_at(its_paper, path, lambda _: thing)), False, path)
            if type(thing) is not int or thing < 0:
                self.assertIs(shows_plan(other, plan, with_at(its_paper, (0, 0, 2), lambda _: thing)), False)
                self.assertIs(shows_plan(other, plan, with_at(its_paper, (1, 0, 0, 2), lambda _: thing)), False)

    def test_truths_for_numbers_and_numbers_for_truths(self):
        task = (NOTHING, (("wanted", "always", chain("before", 1)), ("given", "again", ("not", YES))))
        machine = ring_machine(1)
        paper = machine_papers(task, machine)
        self.machine(task, machine, paper, True)
        for path in paths_in(paper):
            thing = at_path(paper, path)
            if isinstance(thing, int):
                other = int(thing) if isinstance(thing, bool) else thing == 1
                self.assertEqual(with_at(paper, path, lambda _: other) == paper, other == thing)
                self.machine(task, machine, with_at(paper, path, lambda _: other), False)

    def test_tuples_for_goals_more_or_fewer(self):
        task, machine, paper = self.machine_sample()
        self.machine(task, machine, paper + paper[-1:], False)
        self.machine(task, machine, (), False)
        more = task_by(*SAYS, "wanted again x")
        both = machine_papers(more, machine)
        self.machine(more, machine, both, True)
        self.machine(more, machine, both[:1], False)
        task, plan, (rows, counts) = self.plan_sample()
        self.plan(task, plan, (rows, counts + counts[-1:]), False)
        self.plan(task, plan, (rows, counts[:1]), False)
        self.plan(task, plan, (rows, ()), False)
        self.plan(task, plan, (rows, counts, ()), False)
        self.plan(task, plan, (rows,), False)
        self.plan(task, plan, ((), ((),) * len(counts)), False)


class Refused(unittest.TestCase):
    def test_bad_tasks(self):
        for thing in wrong_tasks():
            for show in (shows_machine, shows_plan):
                for rooms in (COPY, ((0, (0, 0)),), None):
                    self.assertRaises(BadTask, show, thing, rooms, None)

    def test_more_than_six_looks(self):
        task = (SMALL, (("wanted", "always", chain("before", 7, A)),))
        for show in (shows_machine, shows_plan):
            for rooms in (COPY, ((0, (0, 0)),), None):
                self.assertRaises(TooGreat, show, task, rooms, ())

    def test_bad_machines_and_plans(self):
        task = task_by("wanted always x")
        for thing in odd() + [(), (((0, 1), (0, 0)),), ((0, (0, 1)),), LATE * 2049, ((0, (0, 0)),) * 4097]:
            self.assertRaises(BadMachine, shows_machine, task, thing, ())
            self.assertRaises(BadPlan, shows_plan, task, thing, ())
        self.assertRaises(BadMachine, shows_machine, task, ((0, (0, 0)),), None)
        self.assertRaises(BadPlan, shows_plan, task, COPY, None)
        task = task_of("comes a b\nanswers x y\nwanted always x")
        self.assertRaises(BadMachine, shows_machine, task, COPY, ())
        self.assertRaises(BadPlan, shows_plan, task, ((0, (0, 0)),), ())


class Stays(Checks):
    def test_what_is_handed_in_stays(self):
        for shown, (task, rooms, paper) in ((shows_machine, self.machine_sample()), (shows_plan, self.plan_sample())):
            lists = [list(rows) for rows in paper]
            self.assertIs(shown(task, rooms, lists), False)
            self.assertEqual(lists, [list(rows) for rows in paper])
            self.assertIs(shown(task, rooms, paper), True)
            self.assertIs(shown(task, rooms, paper), True)


if __name__ == "__main__":
    unittest.main()
