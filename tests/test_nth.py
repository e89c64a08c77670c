"""The call nth."""

import itertools
import unittest

from tests.helper import (
    GREATEST, LEAST, answered, answered_in_lines, assert_nothing_changed, assert_nothing_changed_behind, book_of_words,
    load, nth, row, slow_readings, ways,
)

# How many readings a row of so many letters A has by the book SIX.
COUNTS = [1]
for length in range(60):
    COUNTS.append(sum(COUNTS[-6:]))
SIX = "A 1\nAA 2\nAAA 3\nAAAA 4\nAAAAA 5\nAAAAAA 6"
EXAMPLE = load("A 1\nB 2\nAB 3")


class Nth(unittest.TestCase):
    def test_the_example(self):
        told = answered(EXAMPLE, nth(0, "AB"), nth(1, "AB"), nth(2, "AB"), nth(-1, "AB"), nth(0, "BA"), nth(1, "BA"))
        self.assertEqual(told[1:], [row([1, 2]), row([3]), [-4], [-4], row([2, 1]), [-4]])

    def test_all_of_a_message(self):
        told = answered(EXAMPLE, *[nth(k, "ABAB") for k in range(-1, 5)])
        self.assertEqual(told[1:], [[-4], row([1, 2, 1, 2]), row([1, 2, 3]), row([3, 1, 2]), row([3, 3]), [-4]])

    def test_the_empty_message_has_one_reading(self):
        for before in ([], [EXAMPLE], [load("")]):
            told = answered(*before, nth(0, ""), nth(1, ""), nth(-1, ""), nth(GREATEST, ""), nth(LEAST, ""))
            self.assertEqual(told[len(before):], [[0], [-4], [-4], [-4], [-4]])

    def test_without_entries(self):
        for message in ("A", "1", "A" * 60):
            self.assertEqual(answered(nth(0, message), nth(-1, message), nth(1, message)), [[-4]] * 3)

    def test_a_message_without_a_reading(self):
        told = answered(load("AB 1\nBC 2"), nth(0, "ABC"), nth(0, "ABB"), nth(0, "A"), nth(0, "C"), nth(0, "BCABB"))
        self.assertEqual(told[1:], [[-4]] * 5)

    def test_the_number_zero_is_told(self):
        self.assertEqual(answered(load("A 0\nB 9999"), nth(0, "ABA"))[1], [3, 0, 9999, 0])

    def test_the_order_is_that_of_the_book(self):
        # Neither the numbers nor the words of the entries stand in this order.
        told = answered(load("AB 5\nA 9\nABA 0\nB 7\nBA 1"), *[nth(k, "ABA") for k in range(5)])
        self.assertEqual(told[1:], [row([5, 9]), row([9, 7, 9]), row([9, 1]), row([0]), [-4]])
        told = answered(load("B 0\nA 3\nAB 1\nBA 2\nABA 4"), *[nth(k, "ABA") for k in range(5)])
        self.assertEqual(told[1:], [row([3, 0, 3]), row([3, 2]), row([1, 3]), row([4]), [-4]])

    def test_the_first_place_where_they_differ_counts(self):
        told = answered(load("B 4\nAB 3\nA 2\nBB 1"), *[nth(k, "ABB") for k in range(4)])
        self.assertEqual(told[1:], [row([3, 4]), row([2, 4, 4]), row([2, 1]), [-4]])

    def test_very_many_readings(self):
        count = COUNTS[60]
        begun_with_one = COUNTS[59]
        told = answered(
            load(SIX), ways("A" * 60), ways("A" * 59), nth(0, "A" * 60), nth(1, "A" * 60), nth(count - 2, "A" * 60),
            nth(count - 1, "A" * 60), nth(count, "A" * 60), nth(begun_with_one - 1, "A" * 60),
            nth(begun_with_one, "A" * 60), nth(GREATEST, "A" * 60), nth(-count, "A" * 60),
        )[1:]
        self.assertEqual(told[:2], [[366861197229128136], [begun_with_one]])
        self.assertEqual(told[2:4], [row([1] * 60), row([1] * 58 + [2])])
        self.assertEqual(told[4:6], [row([6] * 9 + [5, 1]), row([6] * 10)])
        self.assertEqual(told[6:], [[-4], row([1] + [6] * 9 + [5]), row([2] + [1] * 58), [-4], [-4]])

    def test_a_hundred_calls_with_very_many_readings(self):
        count = COUNTS[60]
        told = answered(load(SIX), *[nth(count - 1 - k, "A" * 60) for k in range(99)])[1:]
        self.assertEqual(told[0], row([6] * 10))
        for answer in told:
            self.assertEqual(sum(answer[1:]), 60)
            self.assertEqual(answer[0], len(answer) - 1)
        self.assertEqual(sorted(told, key=lambda answer: answer[1:], reverse=True), told)
        self.assertEqual(len(set(map(tuple, told))), 99)

    def test_the_book_of_now_counts(self):
        told = answered(EXAMPLE, nth(0, "AB"), load("AB 3\nB 2\nA 1"), nth(0, "AB"), load("AB"), nth(0, "AB"), load(""),
                        nth(0, "AB"))
        self.assertEqual(told, [[3], row([1, 2]), [3], row([3]), [-1001], row([3]), [0], [-4]])

    def test_against_all_readings_of_short_messages(self):
        books = [["A", "B", "AB"], ["BA", "AB", "A", "B"], ["A1", "1A", "A", "11", "1"], ["B1A", "ABAB1A", "AB", "A"]]
        for words in [list(order) for book in books for order in itertools.permutations(book)][::3]:
            for length in range(6):
                for message in ["".join(one) for one in itertools.product("AB1", repeat=length)][::5]:
                    readings = slow_readings(words, message)
                    calls = [nth(k, message) for k in range(-1, len(readings) + 1)]
                    told = answered_in_lines([load(book_of_words(words))], calls)
                    self.assertEqual(told, [[-4]] + [row(one) for one in readings] + [[-4]], (words, message))

    def test_no_such_reading(self):
        for k in (-1, -2, 2, 3, LEAST, GREATEST):
            assert_nothing_changed(self, nth(k, "AB1"), [-4])
        for k in (-1, 0, 1):
            assert_nothing_changed(self, nth(k, "C"), [-4])
            assert_nothing_changed(self, nth(k, "C" * 60), [-4])

    def test_numbers_that_are_no_sign(self):
        for message in ("a", "x", "Ax", "A B", "@", "[", "/", ":", "A\n", "A" * 59 + "~", "#"):
            assert_nothing_changed(self, nth(0, message), [-1])
        for number in (-1, 0, 255, 256, 65 + 256, -65, LEAST, GREATEST):
            assert_nothing_changed(self, nth(0, [number]), [-1])
            assert_nothing_changed(self, nth(0, [65] * 59 + [number]), [-1])
            assert_nothing_changed(self, nth(0, [number, 49]), [-1])

    def test_no_sign_goes_ahead_of_no_reading(self):
        for k in (LEAST, -1, 1, GREATEST):
            assert_nothing_changed(self, nth(k, "a"), [-1])
            assert_nothing_changed(self, nth(k, [LEAST]), [-1])

    def test_asking_changes_nothing(self):
        assert_nothing_changed(self, nth(0, ""), [0])
        assert_nothing_changed(self, nth(0, "AB1"))
        for k in (0, 1, 3, 4):
            assert_nothing_changed_behind(self, [EXAMPLE], nth(k, "ABAB"))


if __name__ == "__main__":
    unittest.main()
