"""L4: wishes; L6: their names told otherwise."""

import unittest

from things import A, B, C, NO, X, YES, Numbers, chain, ends_of, kinds, left, odd, right, some_wish, wide
from wishkeep.errors import BadName, BadWish
from wishkeep.wishes import (
    deep_of, is_look, is_wish, is_wish_of, many_parts, need_wish, need_wish_of, parts_within, renamed, signs_of,
)

BOARD = (("a", "b"), ("x",))
BEHIND = {"yes": 0, "no": 0, "not": 1, "before": 1, "was": 1, "and": 2, "or": 2, "since": 2}


class Wishes(unittest.TestCase):
    def good(self, wish):
        self.assertIs(is_wish(wish), True, wish)
        self.assertIsNone(need_wish(wish))

    def bad(self, thing):
        self.assertIs(is_wish(thing), False)
        self.assertRaises(BadWish, need_wish, thing)

    def test_each_word_has_just_as_many_parts(self):
        for word, many in BEHIND.items():
            for parts in range(5):
                wish = (word,) + (A,) * parts
                if parts == many:
                    self.good(wish)
                else:
                    self.bad(wish)

    def test_signs(self):
        for name in ("a", "abcdef", "door"):
            self.good(("sign", name))
        for name in ("", "yes", "not", "given", "abcdefg", "A", "a1", 1, None, True, b"a", A, ("a",), ["a"]):
            self.bad(("sign", name))
        for thing in (("sign",), ("sign", "a", "b"), ("sign", A), ("sign", "a", A), "a", ("a",)):
            self.bad(thing)

    def test_other_words(self):
        for word in ("", "YES", "given", "always", "comes", "a", "xor", "Not", " not", "true", None, 1, True, b"yes"):
            for parts in range(3):
                self.bad((word,) + (A,) * parts)
        self.bad(((),))
        self.bad((("yes",),))
        self.bad((["yes"],))

    def test_words_alone_are_none(self):
        for thing in ("yes", "no", "not", (), "sign"):
            self.bad(thing)
            self.bad(("not", thing))

    def test_lists_instead_of_tuples(self):
        for thing in (["yes"], ["not", YES], ("not", ["yes"]), ("and", YES, ["sign", "a"]), ["sign", "a"]):
            self.bad(thing)
        self.bad(("not", ("not", ["not", YES])))

    def test_things_of_other_kinds_at_any_place(self):
        for thing in odd():
            self.bad(thing)
            self.bad(("not", thing))
            self.bad(("and", A, thing))
            self.bad(("since", thing, A))
            self.bad((thing, A))
            self.bad((thing, A, B))
            self.bad(("sign", thing))
            self.bad(("or", A, ("before", ("was", thing))))

    def test_sixty_parts(self):
        for parts in range(1, 61):
            self.assertEqual(many_parts(wide(parts)), parts)
            self.good(wide(parts))
        for parts in range(61, 70):
            self.assertLess(deep_of(wide(parts)), 20)
            self.bad(wide(parts))

    def test_twenty_deep(self):
        for deep in range(1, 21):
            self.assertEqual(deep_of(chain("before", deep - 1)), deep)
            self.good(chain("before", deep - 1))
            self.good(chain("not", deep - 1, A))
        for deep in range(21, 40):
            self.bad(chain("before", deep - 1))
            self.bad(chain("not", deep - 1, A))
        self.good(left("and", [YES] * 20))
        self.bad(left("and", [YES] * 21))
        self.good(right("since", [YES] * 20))
        self.bad(right("since", [YES] * 21))

    def test_deepest_anywhere(self):
        self.good(("and", chain("was", 18), A))
        self.good(("and", A, chain("was", 18)))
        self.bad(("and", chain("was", 19), A))
        self.bad(("and", A, chain("was", 19)))

    def test_one_tuple_at_many_places(self):
        shared = A
        for _ in range(4):
            shared = ("and", shared, shared)
        self.assertEqual(many_parts(shared), 31)
        self.good(shared)
        self.good(("and", shared, chain("not", 15, A)))
        self.bad(("and", shared, shared))
        # 2 to the power of 300 parts, as one tuple within another.
        for _ in range(296):
            shared = ("or", shared, shared)
        self.bad(shared)

    def test_each_part_counts_as_often_as_it_stands(self):
        twice = left("and", [A] * 15)
        self.assertEqual(many_parts(twice), 29)
        self.assertEqual(many_parts(("or", twice, twice)), 59)
        self.good(("or", twice, twice))
        self.good(("not", ("or", twice, twice)))
        self.bad(("not", ("not", ("or", twice, twice))))

    def test_a_ring_is_none(self):
        ring = ["not"]
        ring.append(ring)
        self.bad(ring)
        self.bad(("not", ring))


class WishesOfABoard(unittest.TestCase):
    def test_the_boards_names(self):
        for wish in (A, B, X, YES, NO, ("and", A, X), ("since", ("not", B), ("before", X)), ("or", A, A)):
            self.assertIs(is_wish_of(BOARD, wish), True)
            self.assertIsNone(need_wish_of(BOARD, wish))

    def test_names_that_the_board_lacks(self):
        for wish in (C, ("sign", "y"), ("and", A, C), ("not", ("or", X, ("was", ("sign", "ab"))))):
            self.assertIs(is_wish(wish), True)
            self.assertIs(is_wish_of(BOARD, wish), False)
            self.assertRaises(BadWish, need_wish_of, BOARD, wish)
        self.assertIs(is_wish_of(((), ()), A), False)
        self.assertIs(is_wish_of(((), ()), YES), True)

    def test_what_is_no_wish(self):
        for thing in odd() + [wide(61), chain("not", 20), ["yes"], ("and", A), ("not", ["sign", "a"])]:
            self.assertIs(is_wish_of(BOARD, thing), False)
            self.assertRaises(BadWish, need_wish_of, BOARD, thing)
            self.assertIs(is_wish_of(BOARD, ("and", A, thing)), False)
        self.assertIs(is_wish_of(BOARD, wide(60)), True)


class Parts(unittest.TestCase):
    def test_as_they_first_come_to_their_ends(self):
        self.assertEqual(parts_within(A), [A])
        self.assertEqual(parts_within(("not", A)), [A, ("not", A)])
        self.assertEqual(parts_within(("and", B, A)), [B, A, ("and", B, A)])
        wish = ("since", ("or", A, ("before", B)), ("not", X))
        self.assertEqual(
            parts_within(wish), [A, B, ("before", B), ("or", A, ("before", B)), X, ("not", X), wish]
        )

    def test_unlike_ones_alone(self):
        self.assertEqual(parts_within(("and", A, A)), [A, ("and", A, A)])
        wish = ("or", ("and", A, B), ("since", B, ("and", A, B)))
        self.assertEqual(
            parts_within(wish), [A, B, ("and", A, B), ("since", B, ("and", A, B)), wish]
        )
        self.assertEqual(parts_within(("and", ("and", A, B), ("and", B, A)))[2:4], [("and", A, B), ("and", B, A)])

    def test_like_ones_that_are_other_tuples(self):
        one = tuple(["sign", "a"])
        other = tuple(["sign", "a"])
        self.assertEqual(parts_within(("and", one, other)), [A, ("and", A, A)])

    def test_all_of_them(self):
        numbers = Numbers(4)
        for _ in range(200):
            wish = some_wish(numbers, ("a", "b", "x"), 5)
            ends = ends_of(wish)
            self.assertEqual(parts_within(wish), [part for k, part in enumerate(ends) if part not in ends[:k]])
            self.assertEqual(parts_within(wish)[-1], wish)
            self.assertEqual(many_parts(wish), len(ends))

    def test_the_list_is_the_askers_own(self):
        wish = ("and", A, B)
        parts_within(wish).clear()
        self.assertEqual(len(parts_within(wish)), 3)

    def test_many_parts(self):
        self.assertEqual(many_parts(YES), 1)
        self.assertEqual(many_parts(A), 1)
        self.assertEqual(many_parts(("not", A)), 2)
        self.assertEqual(many_parts(("and", A, A)), 3)
        self.assertEqual(many_parts(("since", ("not", A), ("or", A, B))), 6)

    def test_deep_of(self):
        self.assertEqual(deep_of(YES), 1)
        self.assertEqual(deep_of(A), 1)
        self.assertEqual(deep_of(("not", A)), 2)
        self.assertEqual(deep_of(("and", A, ("not", ("before", B)))), 4)
        self.assertEqual(deep_of(("and", ("not", ("before", B)), A)), 4)

    def test_somewhat_beyond_the_limits(self):
        self.assertEqual(many_parts(wide(65)), 65)
        self.assertEqual(deep_of(chain("was", 24)), 25)
        self.assertEqual(len(parts_within(chain("was", 24))), 25)

    def test_signs_of(self):
        self.assertEqual(signs_of(YES), ())
        self.assertEqual(signs_of(A), ("a",))
        self.assertEqual(signs_of(("and", X, ("or", B, ("not", A)))), ("a", "b", "x"))
        self.assertEqual(signs_of(("and", B, ("or", A, B))), ("a", "b"))
        self.assertEqual(signs_of(("or", ("sign", "ab"), ("or", B, ("sign", "aa")))), ("aa", "ab", "b"))

    def test_is_look(self):
        for wish in (("before", A), ("was", A), ("since", A, B), ("was", ("not", A))):
            self.assertIs(is_look(wish), True)
        for wish in (YES, NO, A, ("not", ("before", A)), ("and", ("was", A), ("was", B)), ("or", A, ("since", A, B))):
            self.assertIs(is_look(wish), False)
        self.assertIs(is_look(("sign", "look")), False)


class Renamed(unittest.TestCase):
    def test_by_pairs(self):
        wish = ("and", A, ("since", ("not", B), ("or", X, A)))
        told = ("and", C, ("since", ("not", B), ("or", X, C)))
        self.assertEqual(renamed(wish, (("a", "c"),)), told)
        self.assertEqual(wish, ("and", A, ("since", ("not", B), ("or", X, A))))

    def test_all_at_once(self):
        self.assertEqual(renamed(("and", A, B), (("a", "b"), ("b", "a"))), ("and", B, A))
        self.assertEqual(renamed(("and", A, B), (("a", "b"), ("b", "c"))), ("and", B, C))
        self.assertEqual(renamed(("and", A, B), (("b", "c"), ("a", "b"))), ("and", B, C))
        self.assertEqual(
            renamed(("or", A, ("or", B, C)), (("a", "b"), ("b", "c"), ("c", "a"))), ("or", B, ("or", C, A))
        )

    def test_names_that_no_pair_tells_stay(self):
        self.assertEqual(renamed(("and", A, B), (("x", "y"),)), ("and", A, B))
        self.assertEqual(renamed(("and", A, B), ()), ("and", A, B))
        self.assertEqual(renamed(YES, (("a", "b"),)), YES)

    def test_two_names_may_be_one_in_a_wish(self):
        self.assertEqual(renamed(("and", A, B), (("a", "b"),)), ("and", B, B))

    def test_a_word_that_is_like_a_name_stays(self):
        self.assertEqual(renamed(("not", ("sign", "sign")), (("sign", "a"),)), ("not", A))
        self.assertEqual(renamed(("not", A), (("sign", "b"),)), ("not", A))

    def test_what_are_no_pairs(self):
        wrong = [[("a", "b")], (["a", "b"],), (("a", "b"), ("a", "c")), (("a", "c"), ("b", "c")), (("a", "yes"),)]
        wrong += [{"a": "b"}, ("ab",), (("a",),), ("a", "b"), (("a", "b", "c"),), None, "ab", (("a", None),)]
        for pairs in wrong + odd() + kinds():
            self.assertRaises(BadName, renamed, A, pairs)


if __name__ == "__main__":
    unittest.main()
