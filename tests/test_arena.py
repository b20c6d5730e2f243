"""G1: arenas; G3: the arena of a task."""

import unittest

from things import A, X, YES, Numbers, chain, odd, some_arena, some_task
from wishkeep.arena import arena_of, is_arena, need_arena
from wishkeep.boards import all_turns
from wishkeep.errors import BadArena, BadTask, TooGreat
from wishkeep.memory import all_positions, moved
from wishkeep.reading import task_of
from wishkeep.tasks import looks_of

STAYS = (0, (), ())


def with_move(move, given=1, wanted=1, many=1):
    """An arena of places with one move each, the last one of which is this."""
    return (((((STAYS,),),) * (many - 1) + (((move,),),)), given, wanted)


def with_goals(given, wanted, many=1):
    """An arena of so many places, in which nothing is met."""
    return ((((STAYS,),),) * many, given, wanted)


class Arenas(unittest.TestCase):
    def good(self, arena):
        self.assertIs(is_arena(arena), True)
        self.assertIsNone(need_arena(arena))

    def bad(self, thing):
        self.assertIs(is_arena(thing), False)
        self.assertRaises(BadArena, need_arena, thing)

    def test_how_many_places(self):
        for many in (1, 2, 119, 120):
            self.good(with_goals(1, 1, many))
        for many in (0, 121, 200, 1000):
            self.bad(with_goals(1, 1, many))

    def test_places_times_the_greater_number_of_goals(self):
        for goals, many in ((2, 100), (3, 66), (4, 50), (5, 40), (6, 33), (7, 28), (8, 25)):
            for given, wanted in ((goals, goals), (goals, 1), (1, goals), (goals - 1, goals)):
                self.good(with_goals(given, wanted, many))
                self.bad(with_goals(given, wanted, many + 1))

    def test_how_many_goals(self):
        for goals in range(1, 9):
            self.good(with_goals(goals, 1))
            self.good(with_goals(1, goals))
            self.good(with_goals(goals, 9 - goals))
        for goals in (0, 9, 10, -1, True, False, None, "1", (1,), 1.0, 10 ** 30):
            self.bad(with_goals(goals, 1))
            self.bad(with_goals(1, goals))

    def test_how_many_letters(self):
        for letters in range(11):
            came = ((((STAYS,),) * letters,), 1, 1)
            answered = (((((STAYS,) * letters),),), 1, 1)
            for arena in (came, answered):
                if 1 <= letters <= 8:
                    self.good(arena)
                else:
                    self.bad(arena)
        self.good((((((STAYS,) * 8),) * 8,) * 120, 1, 1))

    def test_places_with_unlike_many_letters(self):
        one = ((STAYS,),)
        other = ((STAYS, STAYS), (STAYS,), (STAYS,) * 8)
        self.good(((one, other), 1, 1))
        self.good(((other, one, other[:2]), 8, 3))
        self.bad(((one, other, ()), 1, 1))
        self.bad(((one, other + ((),)), 1, 1))

    def test_where_moves_lead(self):
        for many in (1, 2, 100):
            for behind in range(0, many, 9):
                self.good(with_move((behind, (), ()), 1, 1, many))
            for behind in (many, many + 1, -1, True, False, None, "0", (0,), 0.0, 10 ** 30):
                self.bad(with_move((behind, (), ()), 1, 1, many))

    def test_goals_that_are_met(self):
        for goals in ((), (0,), (1,), (4,), (0, 1), (0, 4), (1, 2, 3), (0, 1, 2, 3, 4)):
            self.good(with_move((0, goals, ()), 5, 1))
            self.good(with_move((0, (), goals), 1, 5))
            self.good(with_move((0, goals, goals), 5, 5))
        for goals in (
            (5,), (0, 5), (-1,), (-1, 0), (1, 0), (0, 0), (1, 1), (0, 2, 1), (0, 1, 1), (0, 0, 1), (True,), (False,),
            (0, True), (False, 1), (None,), ("0",), ((0,),), (0.0,), [], [0], "", "0", None, 0, {0: 0}, {0},
            (0, 1, 2, 3, 4, 5), (0, 1, 2, 3, 4, 0), (10 ** 30,),
        ):
            self.bad(with_move((0, goals, ()), 5, 1))
            self.bad(with_move((0, goals, ()), 5, 8))
            self.bad(with_move((0, (), goals), 1, 5))
            self.bad(with_move((0, (), goals), 8, 5))

    def test_lists_for_tuples_and_other_forms(self):
        moves = (((STAYS,),),)
        self.good((moves, 1, 1))
        for thing in (
            [moves, 1, 1], (list(moves), 1, 1), ([[[STAYS]]], 1, 1), (([(STAYS,)],), 1, 1), ((([STAYS],),), 1, 1),
            ((((list(STAYS),),),), 1, 1), (moves, 1), (moves,), (moves, 1, 1, 1), (1, 1, moves), moves,
            ((((STAYS[:2],),),), 1, 1), ((((STAYS + ((),),),),), 1, 1), (((STAYS,),), 1, 1), ((STAYS,), 1, 1),
            (STAYS, 1, 1), ({0: moves[0]}, 1, 1), (({0: (STAYS,)},), 1, 1), ("a", 1, 1), (("a",), 1, 1), (5, 1, 1),
        ):
            self.bad(thing)

    def test_things_of_other_kinds(self):
        for thing in odd():
            self.bad(thing)
            self.bad((thing, 1, 1))
            self.bad(((thing,), 1, 1))
            self.bad((((thing,),), 1, 1))
            self.bad(((((thing,),),), 1, 1))
            self.bad(with_goals(thing, 1))
            self.bad(with_goals(1, thing))
            self.bad(with_move((thing, (), ())))
            if not isinstance(thing, tuple) or len(thing) > 0:
                self.bad(with_move((0, thing, ())))
                self.bad(with_move((0, (), thing)))
            self.bad(with_move((0, (thing,), ())))

    def test_one_wrong_move_late_among_many(self):
        numbers = Numbers(60)
        moves, given, wanted = some_arena(numbers, (25, 8, 8), (8, 8), (4, 4))
        self.good((moves, given, wanted))
        for place in (0, 24):
            came = len(moves[place]) - 1
            for wrong in ((25, (), ()), (0, (8,), ()), (0, (), (8,)), (0, (), ()) * 2):
                letters = moves[place][:came] + (moves[place][came] + (wrong,),)
                self.bad((moves[:place] + (letters,) + moves[place + 1:], given, wanted))

    def test_some(self):
        numbers = Numbers(61)
        for _ in range(50):
            sizes = (1 + numbers.below(20), 1 + numbers.below(8), 1 + numbers.below(8))
            self.good(some_arena(numbers, sizes, (8, 8), (numbers.below(9), numbers.below(9))))


def plainly_arena(task, given, wanted):
    """The arena of a task, by moved alone."""
    positions = all_positions(task)
    places = []
    for position in positions:
        letters = []
        for came, answered in all_turns(task[0]):
            if answered == 0:
                letters.append([])
            behind, met, other = moved(task, position, (came, answered))
            letters[-1].append((positions.index(behind), met, other))
        places.append(tuple(tuple(answers) for answers in letters))
    return (tuple(places), given, wanted)


class Tasks(unittest.TestCase):
    def test_no_rows(self):
        move = (0, (0,), (0,))
        self.assertEqual(arena_of((((), ()), ())), ((((move,),),), 1, 1))
        self.assertEqual(arena_of(((("a",), ("x", "y")), ())), ((((move,) * 4,) * 2,), 1, 1))

    def test_small_ones(self):
        task = task_of("comes a\nanswers x\nwanted always a or not x")
        self.assertEqual(arena_of(task), ((
            (((0, (0,), (0,)), (1, (0,), ())), ((0, (0,), (0,)), (0, (0,), (0,)))),
            (((1, (0,), ()), (1, (0,), ())), ((1, (0,), ()), (1, (0,), ()))),
        ), 1, 1))
        task = task_of("comes a\nanswers\ngiven again a\nwanted again before a\nwanted again not a\nwanted again yes")
        self.assertEqual(arena_of(task), ((
            (((0, (), (1, 2)),), ((1, (0,), (2,)),)),
            (((0, (), (0, 1, 2)),), ((1, (0,), (0, 2)),)),
        ), 1, 3))

    def test_names_on_one_side_alone(self):
        task = task_of("comes\nanswers x y\nwanted again x")
        self.assertEqual(arena_of(task), (((((0, (0,), ()), (0, (0,), (0,))) * 2,),), 1, 1))
        task = task_of("comes a b\nanswers\ngiven again b")
        self.assertEqual(arena_of(task), ((
            (((0, (), (0,)),), ((0, (), (0,)),), ((0, (0,), (0,)),), ((0, (0,), (0,)),)),
        ), 1, 1))

    def test_by_moved(self):
        numbers = Numbers(62)
        many = 0
        for _ in range(150):
            board = numbers.one_of(((("a",), ("x",)), (("a", "b"), ("x",)), ((), ("x", "y")), (("a",), ())))
            task = some_task(numbers, board, numbers.below(6), 4)
            given = max(1, sum(row[:2] == ("given", "again") for row in task[1]))
            wanted = max(1, sum(row[:2] == ("wanted", "again") for row in task[1]))
            places = len(all_positions(task)) if len(looks_of(task)) <= 6 else 1000
            if places <= 120 and places * max(given, wanted) <= 200:
                told = arena_of(task)
                self.assertEqual(told, plainly_arena(task, given, wanted))
                self.assertTrue(is_arena(told))
                many += 1
            else:
                self.assertRaises(TooGreat, arena_of, task)
        self.assertGreater(many, 80)

    def test_bad_tasks(self):
        for thing in odd() + [((), ()), ((("a",), ("a",)), ()), ((("a",), ()), (("given", "always", X),))]:
            self.assertRaises(BadTask, arena_of, thing)

    def test_more_than_six_looks(self):
        board = (("a",), ("x",))
        for many in (7, 8, 19):
            self.assertRaises(TooGreat, arena_of, (board, (("wanted", "always", chain("before", many, A)),)))
        self.assertRaises(TooGreat, arena_of, (board, (("wanted", "always", chain("was", 7, YES)),)))
        # Six looks of one another are few places.
        told = arena_of((board, (("wanted", "again", chain("was", 6, A)),)))
        self.assertEqual(len(told[0]), 2)

    def test_120_places_and_121(self):
        # The looks keep the last letters; GIVEN stands behind such as the always row lets be, and at first.
        again = "wanted again " + " or ".join(f"before {name}" for name in "abcxyz")
        for always, many in (("yes", 64), ("a or x", 113), ("not (a and b and x)", 120)):
            task = task_of(f"comes a b c\nanswers x y z\n{again}\ngiven always {always}")
            self.assertEqual(len(arena_of(task)[0]), many)
        for always, many in (("a or b or x", 121), ("not (a and b and c and x)", 124)):
            task = task_of(f"comes a b c\nanswers x y z\n{again}\ngiven always {always}")
            self.assertEqual(len(all_positions(task)), many)
            self.assertRaises(TooGreat, arena_of, task)

    def test_200_places_times_goals_and_more(self):
        again = "again " + " or ".join(f"before {name}" for name in "abcxy") + "\n"
        for side, other in (("given ", "wanted "), ("wanted ", "given ")):
            for always, many in (("yes", 32), ("not a and not b", 40), ("a and b", 41)):
                for goals in range(1, 8):
                    rows = (side + again) * goals + (other + "again x\n") * (7 - goals)
                    task = task_of(f"comes a b c\nanswers x y z\n{rows}given always {always}")
                    if many * max(goals, 7 - goals) <= 200:
                        self.assertEqual(len(arena_of(task)[0]), many)
                    else:
                        self.assertEqual(len(all_positions(task)), many)
                        self.assertRaises(TooGreat, arena_of, task)

    def test_the_same_each_time(self):
        task = task_of("comes a\nanswers x\nwanted again before a and x")
        self.assertEqual(arena_of(task), arena_of(task))
        self.assertEqual(task, task_of("comes a\nanswers x\nwanted again before a and x"))


if __name__ == "__main__":
    unittest.main()
