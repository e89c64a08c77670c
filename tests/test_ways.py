"""The call ways."""

import itertools
import unittest

from tests.helper import (
    GREATEST, LEAST, answered, answered_in_lines, assert_nothing_changed, book_of_words, load, slow_readings, ways,
)


class Ways(unittest.TestCase):
    def test_the_example(self):
        told = answered(load("A 1\nB 2\nAB 3"), ways("AB"), ways("A"), ways("BA"), ways("ABAB"), ways("C"))
        self.assertEqual(told[1:], [[2], [1], [1], [4], [0]])

    def test_the_empty_message_has_one_reading(self):
        self.assertEqual(answered(ways(""), load("A 1"), ways("")), [[1], [1], [1]])

    def test_without_entries(self):
        self.assertEqual(answered(ways("A"), ways("A" * 60)), [[0], [0]])

    def test_the_words_must_be_just_the_message(self):
        told = answered(load("AB 1\nBC 2\n1 3"), ways("ABC"), ways("ABB"), ways("AABC"), ways("1AB1BC"), ways("A"))
        self.assertEqual(told[1:], [[0], [0], [0], [1], [0]])

    def test_longest_words(self):
        told = answered(load("ABCDEF 1\nABC 2\nDEF 3\nA 4\nBCDEF 5"), ways("ABCDEF"), ways("ABCDEF" * 10), ways("F"))
        self.assertEqual(told[1:], [[3], [3 ** 10], [0]])

    def test_very_many_readings(self):
        book = "A 1\nAA 2\nAAA 3\nAAAA 4\nAAAAA 5\nAAAAAA 6"
        counts = [1]
        for length in range(1, 61):
            counts.append(sum(counts[-6:]))
        told = answered(load(book), *[ways("A" * length) for length in range(61)])
        self.assertEqual(told[1:], [[count] for count in counts])
        self.assertEqual(told[61], [366861197229128136])
        self.assertEqual(answered(load("A 1\nAA 2"), ways("A" * 60))[1], [2504730781961])

    def test_sixty_signs_in_one_way_or_none(self):
        told = answered(load("AAAAAA 6"), ways("A" * 60), ways("A" * 59), load("1 1"), ways("1" * 60), ways("1" * 59 + "2"))
        self.assertEqual(told, [[1], [1], [0], [1], [1], [0]])

    def test_against_slow_counting(self):
        for words in (["A", "B", "AB"], ["AB", "A", "BA", "1"], ["A1", "1A", "A", "11"], ["ABAB1A", "AB", "A", "B1A"]):
            messages = ["".join(one) for length in range(7) for one in itertools.product("AB1", repeat=length)]
            told = answered_in_lines([load(book_of_words(words))], [ways(message) for message in messages])
            self.assertEqual(told, [[len(slow_readings(words, message))] for message in messages])

    def test_the_book_of_now_counts(self):
        self.assertEqual(
            answered(load("A 1"), ways("AA"), load("AA 1\nA 2"), ways("AA"), load("A"), ways("AA"), load(""), ways("A")),
            [[1], [1], [2], [2], [-1001], [2], [0], [0]],
        )

    def test_refused(self):
        for message in ("a", "x", "Ax", "A B", "@", "[", "/", ":", "A\n", "A" * 59 + "~", "#"):
            assert_nothing_changed(self, ways(message), [-1])
        for number in (-1, 0, 255, 256, 65 + 256, -65, LEAST, GREATEST):
            assert_nothing_changed(self, ways([number]), [-1])
            assert_nothing_changed(self, ways([65] * 59 + [number]), [-1])
            assert_nothing_changed(self, ways([number, 49]), [-1])

    def test_asking_changes_nothing(self):
        for message in ("", "A", "AB1", "AB1" * 20):
            assert_nothing_changed(self, ways(message))


if __name__ == "__main__":
    unittest.main()
