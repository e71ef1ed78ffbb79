"""Promises [0.7], [0.5] and stage 1: names; and the words on which other forms stand."""

import unittest

from answeredabove.base.words import is_ascending, is_below, is_between, is_mode_set, is_name, is_tuple
from tests.helpers import BOOLS, FIX, ODD


class TestNames(unittest.TestCase):
    def test_names(self):
        for value in ("a", "z", "m", "need", "abcdefgh", "zzzzzzzz", "go", "call"):
            self.assertIs(is_name(value), True, value)

    def test_each_letter(self):
        for code in range(128):
            self.assertIs(is_name(chr(code)), chr(code) in "abcdefghijklmnopqrstuvwxyz", code)
            self.assertIs(is_name("a" + chr(code)), chr(code) in "abcdefghijklmnopqrstuvwxyz", code)

    def test_too_short_and_too_long(self):
        for value in ("", "abcdefghi", "a" * 100):
            self.assertIs(is_name(value), False, value)

    def test_wrong_letters(self):
        for value in ("A", "Need", "neeD", "need\n", "\nneed", " need", "ne ed", "n1", "1", "a_b", "a.b", "`", "{"):
            self.assertIs(is_name(value), False, value)

    def test_other_values(self):
        for value in ODD + BOOLS + [0, 1, (), ("need",), ["n"], FIX]:
            self.assertIs(is_name(value), False, value)


class TestOtherWords(unittest.TestCase):
    def test_integers(self):
        self.assertEqual([is_between(value, 1, 3) for value in (0, 1, 3, 4)], [False, True, True, False])
        self.assertEqual([is_below(value, 2) for value in (-1, 0, 1, 2)], [False, True, True, False])
        for value in BOOLS + [None, "1", (1,), [1], {1: 1}, FIX]:
            self.assertIs(is_between(value, -5, 5), False)
            self.assertIs(is_below(value, 5), False)

    def test_tuples(self):
        self.assertEqual([is_tuple(value, 1) for value in ((0,), (), (0, 0), [0], "a", {0: 0})], [True] + [False] * 5)

    def test_ascending(self):
        self.assertTrue(is_ascending(()))
        self.assertTrue(is_ascending([(0, 1), (0, 2), (1, 0)]))
        self.assertFalse(is_ascending("aa"))
        self.assertFalse(is_ascending([0, 2, 1]))

    def test_mode_sets(self):
        for value in ((0,), (3,), (0, 1), (1, 3), (0, 1, 2, 3)):
            self.assertIs(is_mode_set(value, 4), True, value)
        for value in ODD + BOOLS + [(), (4,), (0, 4), (1, 1), (2, 0), (0, True), [0], 0, "0", (0, "1"), ((0,),)]:
            self.assertIs(is_mode_set(value, 4), False, value)
        self.assertIs(is_mode_set((1,), 1), False)


if __name__ == "__main__":
    unittest.main()
