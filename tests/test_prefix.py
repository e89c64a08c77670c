"""The call prefix."""

import itertools
import random
import unittest

from tests.helper import (
    answered, assert_nothing_changed, assert_nothing_changed_behind, book_of_words, load, prefix,
)


def told_of(words):
    return answered(load(book_of_words(words)), prefix())[1]


class Prefix(unittest.TestCase):
    def test_without_entries(self):
        self.assertEqual(answered(prefix()), [[1]])
        self.assertEqual(answered(load("A 1\nAB 2"), load(""), prefix())[2], [1])

    def test_one_entry(self):
        for word in ("A", "AA", "ABABAB", "1"):
            self.assertEqual(told_of([word]), [1])

    def test_the_example(self):
        self.assertEqual(answered(load("A 1\nB 2\nAB 3"), prefix())[1], [0])

    def test_no_word_begins_with_another_one(self):
        for words in (["A", "B"], ["AB", "AC", "BA"], ["A", "1"], ["ABCDEF", "ABCDEG", "ABCDG"]):
            self.assertEqual(told_of(words), [1], words)

    def test_a_word_that_ends_with_another_one_or_holds_it(self):
        for words in (["AB", "B"], ["B", "AB"], ["ABC", "BC", "C"], ["ABC", "B"], ["BAAAAA", "AAAAA"]):
            self.assertEqual(told_of(words), [1], words)

    def test_the_longer_word_ahead_of_the_shorter(self):
        for words in (["AB", "A"], ["ABCDEF", "C", "ABCDE"], ["ABCDEF", "A"], ["X", "11", "Y", "1"]):
            self.assertEqual(told_of(words), [0], words)
            self.assertEqual(told_of(words[::-1]), [0], words)

    def test_numbers_do_not_count(self):
        self.assertEqual(answered(load("A 1\nB 12\nC 123"), prefix())[1], [1])

    def test_forty_eight_entries(self):
        words = [first + second + "0000" for first in "ABCDEFGH" for second in "123456"]
        self.assertEqual(told_of(words), [1])
        self.assertEqual(told_of(words[:47] + ["H"]), [0])
        self.assertEqual(told_of(["A1000"] + words[:47]), [0])

    def test_against_all_pairs(self):
        chance = random.Random(11)
        words = ["".join(one) for length in (1, 2, 3) for one in itertools.product("A1", repeat=length)]
        seen = {0: 0, 1: 0}
        for time in range(300):
            book = chance.sample(words, chance.randint(1, 5))
            begins = any(one != other and one.startswith(other) for one in book for other in book)
            self.assertEqual(told_of(book), [0 if begins else 1], book)
            seen[0 if begins else 1] += 1
        self.assertGreater(min(seen.values()), 30)

    def test_the_book_of_now_counts(self):
        told = answered(load("A 1\nAB 2"), prefix(), load("A 1\nB 2"), prefix(), load("A 1\nAB"), prefix())
        self.assertEqual(told, [[2], [0], [2], [1], [-1002], [1]])

    def test_asking_changes_nothing(self):
        assert_nothing_changed(self, prefix())
        assert_nothing_changed_behind(self, [load("A 1\nB 2\nAB 3")], prefix(), [0])
        assert_nothing_changed_behind(self, [load("A 1\nB 2")], prefix(), [1])


if __name__ == "__main__":
    unittest.main()
