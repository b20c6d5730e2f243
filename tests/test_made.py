"""60: machines made by tables of ours, plans made by tables of the other one's."""

import unittest

from things import Numbers, some_arena
from wishkeep.errors import NoMachine, NoPlan
from wishkeep.games import held, lost, ours
from wishkeep.made import machine_of, plan_of


def plainly_machine(arena, table):
    """The machine, point by point as the document makes it."""
    moves, _, wanted = arena
    pairs = [(0, 0)]
    rooms = []
    for place, goal in pairs:
        room = []
        for answers in moves[place]:
            number, kept = table[goal][place]
            for answered, (behind, met, other) in enumerate(answers):
                entry = table[goal][behind]
                if goal in other and entry is not None:
                    pair = (behind, goal + 1 if goal + 1 < wanted else 0)
                    break
                if entry is not None and entry[0] < number:
                    pair = (behind, goal)
                    break
                if entry == (number, kept) and kept not in met:
                    pair = (behind, goal)
                    break
            else:
                raise AssertionError("no answer")
            if pair not in pairs:
                pairs.append(pair)
            room.append((answered, pairs.index(pair)))
        rooms.append(tuple(room))
    return tuple(rooms)


def plainly_plan(arena, table):
    """The plan, point by point as the document makes it."""
    moves, given, _ = arena
    pairs = [(0, 0)]
    rooms = []
    for place, goal in pairs:
        number, kept, counts = table[place]

        def good(move):
            behind, met, other = move
            if table[behind] is None:
                return False
            if table[behind][0] < number:
                return True
            if table[behind][:2] != (number, kept) or kept in other:
                return False
            return goal in met or table[behind][2][goal] < counts[goal]

        came = [all(good(move) for move in answers) for answers in moves[place]].index(True)
        behind = []
        for to, met, _ in moves[place][came]:
            pair = (to, (goal + 1) % given if goal in met else goal)
            if pair not in pairs:
                pairs.append(pair)
            behind.append(pairs.index(pair))
        rooms.append((came, tuple(behind)))
    return tuple(rooms)


class Machines(unittest.TestCase):
    def test_one_place(self):
        self.assertEqual(machine_of((((((0, (), ()),),),), 1, 1), (((0, 0),),)), (((0, 0),),))
        arena = (((((0, (0,), ()), (0, (0,), (0,))), ((0, (0,), (0,)),)),), 1, 1)
        self.assertEqual(machine_of(arena, held(arena)), (((1, 0), (0, 0)),))

    def test_the_first_answer_of_any_case(self):
        # All lead on: to a lesser number, to the same one and goal, or meeting the wanted goal.
        table = (((1, 0), (0, 0), (1, 0), (2, 0), (1, 1), None),)
        rest = ((((1, (), ()),),),) * 5
        for first, told in (
            (((3, (), ()), (4, (), ()), (5, (), (0,)), (2, (0,), ()), (1, (0,), ())), 4),
            (((3, (), ()), (2, (), ()), (1, (), ()), (1, (), (0,))), 1),
            (((1, (0,), ()), (2, (), ()), (1, (), (0,))), 0),
            (((4, (), ()), (3, (0,), (0,)), (1, (), ())), 1),
            (((2, (0,), ()), (2, (1,), ())), 1),
            (((2, (0, 1), ()), (5, (), ()), (1, (0, 1), ())), 2),
        ):
            arena = (((first,),) + rest, 2, 1)
            self.assertEqual(machine_of(arena, table)[0][0][0], told, first)

    def test_a_goal_that_is_met_is_the_first_case(self):
        # Along one move the wanted goal is met, and the number falls: the next goal is the next one round.
        first = (((1, (), (0,)),),)
        second = (((1, (), ()),), ((1, (), (1,)),), ((0, (), (0, 1)),))
        arena = ((first, second), 1, 2)
        table = (((1, 0), (0, 0)), ((1, 0), (0, 0)))
        # Rooms: (0, 0), (1, 1), (1, 0), (0, 1).
        self.assertEqual(machine_of(arena, table), (
            ((0, 1),), ((0, 1), (0, 2), (0, 0)), ((0, 2), (0, 2), (0, 3)), ((0, 1),),
        ))

    def test_goals_one_round(self):
        for wanted in range(1, 9):
            move = (0, (0,), tuple(range(wanted)))
            arena = ((((move,),),), 1, wanted)
            told = machine_of(arena, held(arena))
            self.assertEqual(told, tuple(((0, (k + 1) % wanted),) for k in range(wanted)))

    def test_rooms_as_one_comes_to_them(self):
        # Room by room, by letters rising: places 2, 1 from 0, then 3 from 2.
        places = (
            (((2, (), ()),), ((1, (), ()),)), (((1, (), ()),), ((0, (), ()),)), (((3, (), ()),), ((0, (), ()),)),
            (((1, (), ()),), ((1, (), ()),)),
        )
        arena = (places, 1, 1)
        self.assertEqual(machine_of(arena, held(arena)), (
            ((0, 1), (0, 2)), ((0, 3), (0, 0)), ((0, 2), (0, 0)), ((0, 2), (0, 2)),
        ))

    def test_place_0_is_not_ours(self):
        arena = ((((((1, (0,), ()),),)), ((((1, (), ()),),))), 1, 1)
        self.assertEqual(len(machine_of(arena, held(arena))), 2)
        arena = ((((((0, (0,), ()),),)), ((((1, (), ()),),))), 1, 1)
        self.assertEqual(ours(arena), (1,))
        self.assertRaises(NoMachine, machine_of, arena, held(arena))

    def test_some(self):
        numbers = Numbers(80)
        made = 0
        for _ in range(400):
            sizes = (1 + numbers.below(7), 1 + numbers.below(3), 1 + numbers.below(4))
            arena = some_arena(numbers, sizes, (3, 3), (numbers.below(9), numbers.below(5)))
            table = held(arena)
            if 0 in ours(arena):
                told = machine_of(arena, table)
                self.assertEqual(told, plainly_machine(arena, table))
                self.assertEqual(told, machine_of(arena, table))
                made += 1
            else:
                self.assertRaises(NoMachine, machine_of, arena, table)
        self.assertGreater(made, 100)
        self.assertLess(made, 300)


class Plans(unittest.TestCase):
    def test_one_place(self):
        arena = (((((0, (0,), ()),),),), 1, 1)
        self.assertEqual(plan_of(arena, lost(arena)), ((0, (0,)),))
        arena = (((((0, (0,), (0,)),), ((0, (0,), ()), (0, (0,), ()))),), 1, 1)
        self.assertEqual(plan_of(arena, lost(arena)), ((1, (0, 0)),))

    def test_the_first_letter_by_which_each_answer_is_good(self):
        table = ((1, 0, (3, 3)), (0, 1, (0, 0)), (1, 0, (2, 4)), (2, 0, (0, 0)), (1, 1, (0, 0)), None)
        rest = ((((1, (0, 1), ()),),),) * 5
        good = ((1, (), (0, 1)),)
        for first, told in (
            # To a greater number, another goal, one of ours; the wanted goal met; no lesser count.
            ((((3, (0,), ()),), ((4, (0,), ()),), ((5, (0,), ()),), ((2, (0,), (0,)),), ((0, (1,), ()),), good), 5),
            ((((2, (), ()),), good), 0),
            ((((2, (), (1,)),), good), 0),
            ((((0, (0,), ()),), good), 0),
            ((((0, (), ()),), good), 1),
            ((good + ((3, (), ()),), ((3, (), ()),) + good, good * 3), 2),
            ((((1, (), ()), (2, (), ()), (0, (0,), ())), good), 0),
        ):
            arena = ((first,) + rest, 2, 2)
            self.assertEqual(plan_of(arena, table)[0][0], told, first)

    def test_the_next_goal_where_the_move_meets_it(self):
        # Also along moves to a lesser number; a goal that isn't the room's is nothing to it.
        first = (((0, (0,), ()), (1, (0, 1), (0,)), (1, (1,), (0,))), ((0, (1,), ()),))
        last = (((1, (0, 1), ()),),)
        table = ((1, 0, (1, 1)), (0, 0, (0, 0)))
        # Rooms: (0, 0), (0, 1), (1, 1), (1, 0).
        self.assertEqual(plan_of(((first, last), 2, 1), table), ((0, (1, 2, 3)), (1, (0,)), (0, (3,)), (0, (2,))))

    def test_goals_one_round(self):
        for given in range(1, 9):
            move = (0, tuple(range(given)), ())
            arena = ((((move,),),), given, 1)
            told = plan_of(arena, lost(arena))
            self.assertEqual(told, tuple((0, ((k + 1) % given,)) for k in range(given)))

    def test_rooms_as_one_comes_to_them(self):
        places = (
            (((2, (0,), ()), (1, (0,), ())),), (((1, (0,), ()), (0, (0,), ())),), (((3, (0,), ()), (0, (0,), ())),),
            (((1, (0,), ()), (1, (0,), ())),),
        )
        arena = (places, 1, 1)
        self.assertEqual(plan_of(arena, lost(arena)), ((0, (1, 2)), (0, (3, 0)), (0, (2, 0)), (0, (2, 2))))

    def test_place_0_is_ours(self):
        arena = ((((((0, (), ()),),)), ((((1, (0,), ()),),))), 1, 1)
        self.assertEqual(ours(arena), (0,))
        self.assertRaises(NoPlan, plan_of, arena, lost(arena))

    def test_some(self):
        numbers = Numbers(81)
        made = 0
        for _ in range(400):
            sizes = (1 + numbers.below(7), 1 + numbers.below(4), 1 + numbers.below(3))
            arena = some_arena(numbers, sizes, (3, 3), (numbers.below(9), numbers.below(5)))
            table = lost(arena)
            if 0 in ours(arena):
                self.assertRaises(NoPlan, plan_of, arena, table)
            else:
                told = plan_of(arena, table)
                self.assertEqual(told, plainly_plan(arena, table))
                self.assertEqual(told, plan_of(arena, table))
                made += 1
        self.assertGreater(made, 100)
        self.assertLess(made, 300)


if __name__ == "__main__":
    unittest.main()
