"""G2: who has the places of an arena; G4: tables of ours; G5: tables of the other one's."""

import unittest

from things import Numbers, odd, some_arena
from wishkeep.arena import is_arena
from wishkeep.errors import BadArena
from wishkeep.games import held, lost, others, ours


def plainly_ours(arena):
    """Our places, by going again and again through all places, straight from what a play of ours is."""
    moves, given, wanted = arena
    every = set(range(len(moves)))

    def forced(good):
        return {k for k in every if all(any(good(*move) for move in answers) for answers in moves[k])}

    our = set(every)
    while True:
        left = set(our)
        for goal in range(wanted):
            near = set()
            while True:
                more = set(near)
                for kept in range(given):
                    stay = set(every)
                    while True:
                        smaller = forced(lambda behind, met, other: (
                            (goal in other and behind in our) or behind in near or (kept not in met and behind in stay)
                        ))
                        if smaller == stay:
                            break
                        stay = smaller
                    more |= stay
                if more == near:
                    break
                near = more
            left &= near
        if left == our:
            return tuple(sorted(our))
        our = left


class Checks(unittest.TestCase):
    def check_held(self, arena, our):
        moves, given, wanted = arena
        told = held(arena)
        self.assertIsInstance(told, tuple)
        self.assertEqual(len(told), wanted)
        for goal, entries in enumerate(told):
            self.assertIsInstance(entries, tuple)
            self.assertEqual(len(entries), len(moves))
            for place, entry in enumerate(entries):
                self.assertIs(entry is None, place not in our)
                if entry is not None:
                    self.check_entry(entry, given)
                    for answers in moves[place]:
                        good = [self.holds(entries, entry, goal, move) for move in answers]
                        self.assertIn(True, good, (arena, goal, place))

    def check_entry(self, entry, goals):
        self.assertIsInstance(entry, tuple)
        self.assertEqual([isinstance(part, bool) for part in entry[:2]], [False, False])
        number, goal = entry[:2]
        self.assertGreaterEqual(number, 0)
        self.assertIn(goal, range(goals))

    def holds(self, entries, entry, goal, move):
        behind, met, other = move
        if entries[behind] is None:
            return False
        number, kept = entries[behind]
        return goal in other or number < entry[0] or ((number, kept) == entry and kept not in met)

    def check_lost(self, arena, our):
        moves, given, wanted = arena
        told = lost(arena)
        self.assertIsInstance(told, tuple)
        self.assertEqual(len(told), len(moves))
        for place, entry in enumerate(told):
            self.assertIs(entry is None, place in our)
            if entry is not None:
                self.check_entry(entry, wanted)
                self.assertEqual(len(entry), 3)
                self.assertIsInstance(entry[2], tuple)
                self.assertEqual(len(entry[2]), given)
                self.assertGreaterEqual(min(entry[2]), 0)
                for kept in range(given):
                    good = [all(self.breaks(told, entry, kept, move) for move in answers) for answers in moves[place]]
                    self.assertIn(True, good, (arena, kept, place))

    def breaks(self, entries, entry, kept, move):
        behind, met, other = move
        if entries[behind] is None:
            return False
        number, goal, counts = entries[behind]
        if number < entry[0]:
            return True
        if (number, goal) != entry[:2] or goal in other:
            return False
        return kept in met or counts[kept] < entry[2][kept]

    def check(self, arena, our=None):
        """Checks all that is told of an arena, and whose its places are."""
        self.assertTrue(is_arena(arena))
        told = ours(arena)
        if our is not None:
            self.assertEqual(told, our)
        self.assertIsInstance(told, tuple)
        self.assertEqual(others(arena), tuple(place for place in range(len(arena[0])) if place not in told))
        self.assertEqual(list(told), sorted(set(told)))
        self.check_held(arena, told)
        self.check_lost(arena, told)
        return told


def one_way(moves, given=1, wanted=1):
    """An arena of places from which just one move leads."""
    return (tuple(((move,),) for move in moves), given, wanted)


class Small(Checks):
    def test_one_place(self):
        for met in ((), (0,)):
            for other in ((), (0,)):
                self.check(one_way([(0, met, other)]), (0,) if met == () or other == (0,) else ())

    def test_tables_of_one_place(self):
        self.assertEqual(held(one_way([(0, (0,), ())])), ((None,),))
        self.assertEqual(lost(one_way([(0, (), ())])), (None,))
        self.check(one_way([(0, (0,), ())]), ())

    def test_several_given_goals(self):
        # Ours where one of them is never met, or each wanted one is.
        self.check(one_way([(0, (0, 1), ())], 2, 1), ())
        self.check(one_way([(0, (0,), ())], 2, 1), (0,))
        self.check(one_way([(0, (1,), ())], 2, 1), (0,))
        self.check(one_way([(1, (0,), ()), (0, (1,), ())], 2, 1), ())
        self.check(one_way([(1, (0, 1), ()), (1, (1,), ())], 2, 1), (0, 1))

    def test_several_wanted_goals(self):
        self.check(one_way([(0, (0,), (0, 1))], 1, 2), (0,))
        self.check(one_way([(0, (0,), (0,))], 1, 2), ())
        self.check(one_way([(1, (0,), (0,)), (0, (), (1,))], 1, 2), (0, 1))
        self.check(one_way([(1, (0,), (0, 1)), (1, (0,), (1,))], 1, 2), ())

    def test_we_choose_knowing_the_letter(self):
        # By one letter place 1 is good, by the other one place 2.
        stays = (((1, (0,), (0,)),),), (((2, (0,), ()),),)
        for came in (((1, 2), (2, 1)), ((1,), (2, 1)), ((1, 2),)):
            first = tuple(tuple((behind, (), ()) for behind in answers) for answers in came)
            self.check(((first,) + stays, 1, 1), (0, 1))
        first = (((1, (), ()), (2, (), ())), ((2, (), ()),))
        self.check(((first,) + stays, 1, 1), (1,))

    def test_met_at_once_later_and_never_again(self):
        # Place 0 meets the wanted goal; 1 leads there; in 2 the given one is never met.
        arena = one_way([(0, (0,), (0,)), (0, (0,), ()), (2, (), ())])
        self.check(arena, (0, 1, 2))
        # Once is not again and again.
        self.check(one_way([(1, (0,), (0,)), (1, (0,), ())]), ())
        self.check(one_way([(1, (0,), ()), (1, (), ())]), (0, 1))

    def test_a_given_goal_that_ends_or_a_wanted_one_that_is_met(self):
        # We stay, and the given goal isn't met, or we go, and the wanted one is met later.
        stay_or_go = (((0, (), ()), (1, (0,), ())),)
        there = (((0, (0,), (0,)),),)
        self.check(((stay_or_go, there), 1, 1), (0, 1))
        # The other one chooses which.
        stay_or_go = (((0, (), ()),), ((1, (0,), ()),))
        self.check(((stay_or_go, there), 1, 1), (0, 1))
        # Now the given goal is met in both, the wanted one in one alone.
        stay_or_go = (((0, (0,), ()),), ((1, (0,), ()),))
        self.check(((stay_or_go, there), 1, 1), ())

    def test_goals_that_are_met_in_turn_by_one_who_chooses(self):
        # In the middle the other one has to choose between two given goals, one at a time.
        middle = (((1, (0,), ()),), ((2, (1,), ()),))
        back = (((0, (), ()),),)
        self.check(((middle, back, back), 2, 1), ())
        # And we between two wanted ones.
        middle = (((1, (0,), (0,)), (2, (0,), (1,))),)
        self.check(((middle, back, back), 1, 2), (0, 1, 2))
        # But not where one of both can't be left.
        self.check(((middle, (((1, (), ()),),), (((2, (0,), (1,)),),)), 1, 2), (0, 1))

    def test_moves_that_meet_it_and_lead_to_the_other_one(self):
        lost_for_good = (((1, (0,), ()),),)
        self.check((((((1, (), (0,)),),), lost_for_good), 1, 1), ())
        self.check((((((1, (), (0,)), (0, (), (0,))),), lost_for_good), 1, 1), (0,))

    def test_never_a_given_goal(self):
        numbers = Numbers(70)
        for _ in range(40):
            sizes = (1 + numbers.below(8), 1 + numbers.below(3), 1 + numbers.below(3))
            arena = some_arena(numbers, sizes, (3, 3), (0, numbers.below(4)))
            self.check(arena, tuple(range(sizes[0])))

    def test_all_wanted_goals_along_all_moves(self):
        numbers = Numbers(71)
        for _ in range(40):
            sizes = (1 + numbers.below(8), 1 + numbers.below(3), 1 + numbers.below(3))
            arena = some_arena(numbers, sizes, (3, 3), (numbers.below(9), 8))
            self.check(arena, tuple(range(sizes[0])))

    def test_all_given_goals_and_never_a_wanted_one(self):
        numbers = Numbers(72)
        for _ in range(40):
            sizes = (1 + numbers.below(8), 1 + numbers.below(3), 1 + numbers.below(3))
            self.check(some_arena(numbers, sizes, (3, 3), (8, 0)), ())

    def test_letters_of_unlike_number(self):
        arena = ((
            (((0, (0,), ()), (1, (0,), (0,))), ((1, (), ()),), ((0, (), ()), (2, (0,), ()), (1, (), ()))),
            (((0, (0,), (0,)),),),
            (((2, (0,), ()),), ((0, (), ()), (2, (0,), (0,)))),
        ), 1, 1)
        self.check(arena, (0, 1))


class Many(Checks):
    def test_by_a_plain_reckoning(self):
        numbers = Numbers(73)
        kinds = {}
        for _ in range(700):
            sizes = (1 + numbers.below(7), 1 + numbers.below(3), 1 + numbers.below(3))
            letters = (1 + numbers.below(3), 1 + numbers.below(3))
            arena = some_arena(numbers, sizes, letters, (numbers.below(9), numbers.below(5)))
            told = self.check(arena, plainly_ours(arena))
            kind = "all" if len(told) == sizes[0] else "none" if told == () else "some"
            kinds[kind] = kinds.get(kind, 0) + 1
        self.assertGreater(min(kinds[kind] for kind in ("all", "none", "some")), 50, kinds)

    def test_told_again(self):
        numbers = Numbers(74)
        for _ in range(30):
            arena = some_arena(numbers, (6, 2, 2), (3, 3), (5, 2))
            kept = tuple(tuple(tuple(tuple(move for move in answers) for answers in place) for place in arena[0]))
            for tell in (ours, others, held, lost):
                self.assertEqual(tell(arena), tell(arena))
                self.assertEqual(tell(arena), tell((kept,) + arena[1:]))
            self.assertEqual(arena[0], kept)

    def test_goals_told_twice_or_in_another_order(self):
        numbers = Numbers(75)
        for _ in range(60):
            arena = some_arena(numbers, (6, 2, 3), (3, 3), (5, 3))
            told = self.check(arena)
            self.check(goals_otherwise(arena, ((1, 0), (2, 0, 1))), told)
            self.check(goals_otherwise(arena, ((0, 1, 0), (0, 1, 2, 2, 1))), told)
            self.check(goals_otherwise(arena, ((1, 1, 1, 0), (2, 1, 0))), told)

    def test_letters_told_twice_or_in_another_order(self):
        numbers = Numbers(76)
        for _ in range(60):
            arena = some_arena(numbers, (6, 2, 2), (3, 3), (5, 3))
            told = self.check(arena)
            moves, given, wanted = arena
            turned = tuple(tuple(answers[::-1] for answers in place[::-1]) for place in moves)
            twice = tuple(tuple(answers * 2 for answers in place) * 2 for place in moves)
            self.check((turned, given, wanted), told)
            self.check((twice, given, wanted), told)

    def test_places_numbered_otherwise(self):
        numbers = Numbers(77)
        for _ in range(60):
            arena = some_arena(numbers, (7, 2, 2), (3, 3), (5, 3))
            told = self.check(arena)
            rest = list(range(7))
            order = [rest.pop(numbers.below(len(rest))) for _ in range(7)]
            self.check(places_otherwise(arena, order), tuple(sorted(order[place] for place in told)))

    def test_two_arenas_side_by_side(self):
        numbers = Numbers(78)
        for _ in range(30):
            one = some_arena(numbers, (5, 2, 2), (3, 3), (5, 3))
            other = some_arena(numbers, (6, 2, 2), (3, 3), (5, 3))
            beside = places_otherwise(other, range(5, 11))[0][5:]
            told = ours(one) + tuple(place + 5 for place in ours(other))
            self.check((one[0] + beside, 2, 2), told)


def goals_otherwise(arena, orders):
    """The arena with these of its given and wanted goals, in this order."""
    def changed(goals, order):
        return tuple(k for k, goal in enumerate(order) if goal in goals)
    return (tuple(
        tuple(
            tuple((behind, changed(met, orders[0]), changed(other, orders[1])) for behind, met, other in answers)
            for answers in place
        )
        for place in arena[0]
    ), len(orders[0]), len(orders[1]))


def places_otherwise(arena, order):
    """The arena in which place k is the order[k]-th."""
    places = [None] * (max(order) + 1)
    for k, place in enumerate(arena[0]):
        places[order[k]] = tuple(
            tuple((order[behind], met, other) for behind, met, other in answers) for answers in place
        )
    return (tuple(places),) + arena[1:]


class Great(Checks):
    def test_of_the_greatest_size(self):
        numbers = Numbers(79)
        for many, goals in ((120, 1), (100, 2), (66, 3), (50, 4), (40, 5), (33, 6), (28, 7), (25, 8)):
            for often in ((8, 1), (6, 1), (4, 4), (8, 8)):
                self.check(some_arena(numbers, (many, goals, goals), (8, 8), often))
            self.check(some_arena(numbers, (many, goals, 1), (2, 2), (7, 1)))
            self.check(some_arena(numbers, (many, 1, goals), (2, 2), (7, 3)))

    def test_one_behind_the_other(self):
        far = [(k + 1, (0,), ()) for k in range(119)]
        self.check(one_way(far + [(119, (0,), ())]), ())
        self.check(one_way(far + [(0, (0,), (0,))]), tuple(range(120)))
        self.check(one_way(far + [(119, (), ())]), tuple(range(120)))
        self.check(one_way([(0, (0,), (0,))] + [(k, (0,), ()) for k in range(119)]), tuple(range(120)))
        far = [(k + 1, (k % 8,), (k % 7,)) for k in range(24)]
        self.check(one_way(far + [(0, (), (7,))], 8, 8), tuple(range(25)))
        self.check(one_way(far + [(0, (), ())], 8, 8), ())
        self.check(one_way(far + [(24, (), ())], 8, 8), tuple(range(25)))

    def test_lost_one_after_the_other(self):
        # Each place is lost when the one ahead is, and not earlier: it stays, or goes there and meets the wanted goal.
        moves = [(((0, (0,), ()),),)]
        moves += [(((k, (0,), ()), (k - 1, (0,), (0,))),) for k in range(1, 120)]
        self.check((tuple(moves), 1, 1), ())
        moves[60] = (moves[60][0] + ((60, (), ()),),)
        self.check((tuple(moves), 1, 1), tuple(range(60, 120)))

    def test_as_slow_as_they_come(self):
        # As above; beside it a row of places of ours, each seen to be so when the one ahead is: anew for each lost one.
        moves = [(((0, (0,), ()),),)]
        moves += [(((k, (0,), ()), (k - 1, (0,), (0,))),) for k in range(1, 60)]
        moves += [(((k + 1, (0,), ()), (k - 1 if k > 60 else 119, (0,), ())),) for k in range(60, 118)]
        moves += [(((118, (0,), ()), (117, (0,), ())),), (((119, (), ()),),)]
        self.check((tuple(moves), 1, 1), tuple(range(60, 120)))
        twice = tuple(tuple(answers * 4 for answers in place) * 8 for place in moves)
        self.check((twice, 1, 1), tuple(range(60, 120)))

    def test_slow_with_eight_goals(self):
        moves = [(((0, tuple(range(8)), ()),),)]
        for k in range(1, 12):
            moves.append((((k, tuple(range(8)), (k % 8,)), (k - 1, (), tuple(range(8)))),) * 8)
        for k in range(12, 24):
            moves.append((((min(k + 1, 23), (k % 8,), ()), (k - 1 if k > 12 else 24, tuple(range(8)), ())),) * 8)
        moves.append((((24, (1, 2, 3), ()),),))
        arena = (tuple(moves), 8, 8)
        self.check(arena, plainly_ours(arena))


class Refused(unittest.TestCase):
    def test_no_arenas(self):
        place = (((0, (), ()),),)
        self.assertEqual(ours(((place,), 1, 1)), (0,))
        wrong = [((place,), 1), ((place,), 0, 1), ((place,), 1, 9), ((place,), True, 1), ([place], 1, 1), ((), 1, 1)]
        wrong += [(((((1, (), ()),),),), 1, 1), (((((0, (1,), ()),),),), 1, 1), (((((0, [], ()),),),), 1, 1)]
        wrong += [((place,) * 121, 1, 1), ((place,) * 101, 2, 1), (place,), place]
        for tell in (ours, others, held, lost):
            for thing in wrong + odd():
                self.assertRaises(BadArena, tell, thing)
            for thing in odd():
                self.assertRaises(BadArena, tell, (thing, 1, 1))


if __name__ == "__main__":
    unittest.main()
