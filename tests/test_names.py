"""L1: names; L6: names told otherwise."""

import unittest

from things import odd
from wishkeep.errors import BadName
from wishkeep.names import are_pairs, is_name, name_by, need_name

TOLD_WORDS = (
    "yes", "no", "not", "and", "or", "before", "since", "was",
    "given", "wanted", "always", "again", "comes", "answers",
)


class Names(unittest.TestCase):
    def good(self, name):
        self.assertIs(is_name(name), True, name)
        self.assertIsNone(need_name(name), name)

    def bad(self, thing):
        self.assertIs(is_name(thing), False)
        self.assertRaises(BadName, need_name, thing)

    def test_one_to_six_letters(self):
        for name in ("a", "z", "ab", "abc", "abcd", "abcde", "abcdef", "zzzzzz", "bell", "door"):
            self.good(name)
        for name in ("", "abcdefg", "zzzzzzz", "a" * 100):
            self.bad(name)

    def test_every_letter(self):
        for letter in "abcdefghijklmnopqrstuvwxyz":
            self.good(letter)
            self.good("q" + letter + "q")

    def test_other_signs_at_each_place(self):
        for sign in "AZM059_- +/|(){}`@[.,'\"\n\t~%\u00e9\u0430\u00df":
            for name in (sign, sign + "bc", "a" + sign + "c", "ab" + sign, "abcde" + sign):
                self.bad(name)

    def test_told_words(self):
        for word in TOLD_WORDS:
            self.bad(word)
            self.bad(word.upper())

    def test_told_words_with_a_letter_more_or_less(self):
        for word in TOLD_WORDS:
            for other in (word + "x", "x" + word, word[1:], word[:-1]):
                if len(other) <= 6 and other not in TOLD_WORDS:
                    self.good(other)

    def test_other_words_of_the_document_are_names(self):
        for word in ("sign", "true", "none", "or", "come", "answer", "goal", "loop"):
            if word != "or":
                self.good(word)

    def test_things_of_other_kinds(self):
        for thing in odd():
            self.bad(thing)


class Pairs(unittest.TestCase):
    def test_good_ones(self):
        for pairs in (
            (), (("a", "b"),), (("a", "a"),), (("a", "b"), ("b", "a")), (("a", "b"), ("b", "c"), ("c", "a")),
            (("abcdef", "x"), ("x", "abcdef")),
        ):
            self.assertIs(are_pairs(pairs), True, pairs)

    def test_first_ones_unlike(self):
        self.assertIs(are_pairs((("a", "b"), ("a", "c"))), False)
        self.assertIs(are_pairs((("a", "b"), ("a", "b"))), False)
        self.assertIs(are_pairs((("a", "b"), ("c", "d"), ("a", "e"))), False)

    def test_second_ones_unlike(self):
        self.assertIs(are_pairs((("a", "b"), ("c", "b"))), False)
        self.assertIs(are_pairs((("a", "b"), ("b", "c"), ("d", "b"))), False)

    def test_forms_that_are_none(self):
        for thing in (
            [("a", "b")], (["a", "b"],), ("ab",), (("a",),), (("a", "b", "c"),), (("a", "yes"),), (("no", "a"),),
            (("a", None),), ((0, 1),), (("a", "b"), ("c",)), {"a": "b"}, ("a", "b"), ((),), "ab", (("A", "b"),),
            (("a", ["b"]),), ((("a", "b"), "c"),), (("abcdefg", "a"),), (("a", ""),), ((True, False),),
        ):
            self.assertIs(are_pairs(thing), False, thing)

    def test_things_of_other_kinds(self):
        for thing in odd():
            self.assertIs(are_pairs(thing), False)
            self.assertIs(are_pairs((thing,)), False)
            self.assertIs(are_pairs((("a", thing),)), False)
            self.assertIs(are_pairs((("a", "b"), (thing, "c"))), False)

    def test_name_by(self):
        pairs = (("a", "b"), ("b", "c"), ("door", "gate"))
        self.assertEqual(name_by(pairs, "a"), "b")
        self.assertEqual(name_by(pairs, "b"), "c")
        self.assertEqual(name_by(pairs, "door"), "gate")

    def test_others_stay(self):
        self.assertEqual(name_by((("a", "b"),), "c"), "c")
        self.assertEqual(name_by((("a", "b"),), "b"), "b")
        self.assertEqual(name_by((), "a"), "a")

    def test_exchanged(self):
        pairs = (("a", "b"), ("b", "a"))
        self.assertEqual([name_by(pairs, name) for name in ("a", "b", "c")], ["b", "a", "c"])


if __name__ == "__main__":
    unittest.main()
