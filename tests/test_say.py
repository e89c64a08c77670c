"""The calls say and meaning."""

import unittest

from tests.helper import (
    GREATEST, LEAST, answered, assert_nothing_changed, assert_nothing_changed_behind, load, meaning, row, say,
)

BOOK = load("AB 20\nB1 7\nA 0\n1 5\nABCDEF 9999")


class Say(unittest.TestCase):
    def test_words_one_behind_another(self):
        told = answered(BOOK, say([20]), say([20, 7]), say([7, 20]), say([5, 0, 9999, 20]))
        self.assertEqual(told[1:], [row("AB"), row("ABB1"), row("B1AB"), row("1AABCDEFAB")])

    def test_no_numbers(self):
        self.assertEqual(answered(say([]), BOOK, say([])), [[0], [5], [0]])

    def test_one_number_several_times(self):
        told = answered(BOOK, say([0, 0]), say([7, 7, 7]), say([0] * 60))
        self.assertEqual(told[1:], [row("AA"), row("B1B1B1"), row("A" * 60)])

    def test_more_than_sixty_signs(self):
        told = answered(BOOK, say([9999] * 10 + [0]), say([9999] * 60))
        self.assertEqual(told[1:], [row("ABCDEF" * 10 + "A"), row("ABCDEF" * 60)])

    def test_without_entries(self):
        self.assertEqual(answered(say([]), say([0]), say([1, 2])), [[0], [-5], [-5]])

    def test_a_number_that_is_no_entrys(self):
        # Numbers that are near, signs and places in the book are no entries' numbers.
        for number in (1, 2, 3, 4, 6, 8, 10, 19, 21, 65, 66, 49, 9998, 10000, -1, -20, -5, LEAST, GREATEST):
            assert_nothing_changed(self, say([number]), [-5])
            assert_nothing_changed_behind(self, [BOOK], say([number]), [-5])
            assert_nothing_changed_behind(self, [BOOK], say([20, number]), [-5])
            assert_nothing_changed_behind(self, [BOOK], say([number, 20]), [-5])
            assert_nothing_changed_behind(self, [BOOK], say([0] * 59 + [number]), [-5])

    def test_the_book_of_now_counts(self):
        told = answered(load("A 1"), say([1]), load("B 1"), say([1]), load("C 1\nD"), say([1]), load("C 2"), say([1]))
        self.assertEqual(told, [[1], row("A"), [1], row("B"), [-1002], row("B"), [1], [-5]])

    def test_asking_changes_nothing(self):
        assert_nothing_changed(self, say([]), [0])
        for numbers in ([0], [20, 7], [5] * 60):
            assert_nothing_changed_behind(self, [BOOK], say(numbers))


class Meaning(unittest.TestCase):
    def test_each_entry(self):
        told = answered(BOOK, meaning(20), meaning(7), meaning(5), meaning(9999))
        self.assertEqual(told[1:], [row("AB"), row("B1"), row("1"), row("ABCDEF")])

    def test_the_number_zero(self):
        self.assertEqual(answered(meaning(0), BOOK, meaning(0)), [[-5], [5], row("A")])
        self.assertEqual(answered(load("A 1\nB 2"), meaning(0)), [[2], [-5]])

    def test_words_of_all_lengths(self):
        words = ["9", "Z9", "Z9Z", "0000", "ABCDE", "ZZZZZZ"]
        book = load("\n".join(f"{word} {len(word)}" for word in words))
        self.assertEqual(answered(book, *[meaning(n) for n in range(1, 7)])[1:], [row(word) for word in words])

    def test_without_entries(self):
        self.assertEqual(answered(meaning(0), meaning(1)), [[-5], [-5]])

    def test_a_number_that_is_no_entrys(self):
        for number in (1, 2, 3, 4, 6, 8, 10, 19, 21, 65, 66, 49, 9998, 10000, -1, -20, -5, LEAST, GREATEST):
            assert_nothing_changed(self, meaning(number), [-5])
            assert_nothing_changed_behind(self, [BOOK], meaning(number), [-5])

    def test_the_book_of_now_counts(self):
        told = answered(load("A 1"), meaning(1), load("B 1"), meaning(1), load("C 1\nD"), meaning(1), load(""),
                        meaning(1))
        self.assertEqual(told, [[1], row("A"), [1], row("B"), [-1002], row("B"), [0], [-5]])

    def test_asking_changes_nothing(self):
        for number in (0, 5, 7, 20, 9999):
            assert_nothing_changed(self, meaning(number))
            assert_nothing_changed_behind(self, [BOOK], meaning(number))


if __name__ == "__main__":
    unittest.main()
