"""The call signal, and the first promise of it."""

import random
import unittest

from tests.helper import (
    GREATEST, LEAST, answered, answered_in_lines, assert_nothing_changed, assert_nothing_changed_behind, book_of_words,
    hoists, hoists_told, joined, load, read, row, rows, say, sets, signal, slow_hoists, slow_parts, slow_readings, ways,
)

BOOK = load("AB 20\nB1 7\nA 0\n1 5\nABCDEF 9999\nB 3")
SIX = load("A 1\nAA 2\nAAA 3\nAAAA 4\nAAAAA 5\nAAAAAA 6")


class Signal(unittest.TestCase):
    def test_readings_then_hoists(self):
        told = answered(BOOK, signal([20]), signal([20, 5]), signal([5, 0, 5]), signal([9999, 3]), signal([5, 20, 20]))
        self.assertEqual(told[1:], [
            [2] + rows("AB"), [3] + rows("AB1"), [1] + rows("1A", "1"), [1] + rows("ABCDEFy"), [4] + rows("1ABxy"),
        ])

    def test_the_example(self):
        told = answered(load("A 1\nB 2\nAB 3"), signal([1, 2]), signal([3]), signal([2, 1]))
        self.assertEqual(told[1:], [[2] + rows("AB"), [2] + rows("AB"), [1] + rows("BA")])

    def test_each_hoist_stands_as_a_row(self):
        self.assertEqual(answered(BOOK, signal([5, 0, 5]))[1], [1, 2] + row("1A") + row("1"))

    def test_no_numbers(self):
        self.assertEqual(answered(signal([]), BOOK, signal([])), [[1, 0], [6], [1, 0]])

    def test_one_number_several_times(self):
        told = answered(BOOK, signal([0] * 5), signal([20] * 3), sets(2), signal([0] * 8))
        self.assertEqual(told[1:], [[1] + rows("Axyz", "A"), [8] + rows("ABxyz", "B"), [0], [1] + rows("AAxxyyz", "A")])

    def test_the_number_of_sets_counts(self):
        told = answered(BOOK, signal([5, 0, 5]), sets(2), signal([5, 0, 5]), sets(1), signal([5, 0, 5]))
        self.assertEqual(told[1::2], [[1] + rows("1A", "1"), [1] + rows("1A1"), [1] + rows("1A", "1")])

    def test_just_sixty_signs(self):
        turn = "ABCDEFABCDEF"
        told = answered(BOOK, signal([9999] * 10), signal([0] * 60), signal([20] * 29 + [0, 0]))[1:]
        sevens = [turn[start % 6:start % 6 + 6] + "x" for start in range(8)]
        self.assertEqual(told[0], [1] + rows(*sevens, "CDEF"))
        self.assertEqual(told[1], [1] + rows(*["Axyz"] * 15))
        self.assertEqual(told[2][0], 2 ** 29)

    def test_very_many_readings(self):
        told = answered(SIX, signal([1] * 60), signal([6] * 10), signal([2] * 30), signal([5, 6] * 5 + [5]))
        self.assertEqual(told[1:], [[366861197229128136] + rows(*["Axyz"] * 15)] * 4)

    def test_more_than_sixty_signs(self):
        for numbers in ([9999] * 10 + [0], [20] * 30 + [0], [0] * 59 + [20], [20] + [0] * 59, [9999] * 60):
            assert_nothing_changed_behind(self, [sets(2), BOOK], signal(numbers), [-6])

    def test_a_number_that_is_no_entrys(self):
        for number in (1, 2, 4, 6, 8, 19, 21, 65, 49, 9998, 10000, -1, -20, -5, LEAST, GREATEST):
            assert_nothing_changed(self, signal([number]), [-5])
            assert_nothing_changed_behind(self, [BOOK], signal([number]), [-5])
            assert_nothing_changed_behind(self, [BOOK], signal([20, number]), [-5])
            assert_nothing_changed_behind(self, [BOOK], signal([number, 20]), [-5])

    def test_no_entry_goes_ahead_of_too_many_signs(self):
        for number in (1, 10000, LEAST, GREATEST):
            for numbers in ([9999] * 59 + [number], [number] + [9999] * 59, [9999] * 10 + [0, number]):
                assert_nothing_changed_behind(self, [BOOK], signal(numbers), [-5])

    def test_without_entries(self):
        self.assertEqual(answered(signal([]), signal([0]), signal([0] * 60)), [[1, 0], [-5], [-5]])

    def test_the_book_of_now_counts(self):
        told = answered(load("A 1"), signal([1]), load("BB 1\nB 2"), signal([1]), load("C 1\nD"), signal([1]), load(""),
                        signal([1]))
        self.assertEqual(told[1::2], [[1] + rows("A"), [2] + rows("Bx"), [2] + rows("Bx"), [-5]])

    def test_asking_changes_nothing(self):
        assert_nothing_changed(self, signal([]), [1, 0])
        for numbers in ([0], [20, 7], [5] * 60, [9999] * 10):
            assert_nothing_changed_behind(self, [sets(2), BOOK], signal(numbers))


class FirstPromise(unittest.TestCase):
    def test_against_all_ways_to_part_and_to_read(self):
        chance = random.Random(13)
        words = ["A1", "1", "A", "11A"]
        for set_count in (1, 2):
            first = slow_hoists("A1xyz", 7, set_count)
            signalled = [[chance.randrange(4) for place in range(6)] for time in range(60)]
            told = answered_in_lines([sets(set_count), load(book_of_words(words))], [signal(one) for one in signalled])
            for numbers, answer in zip(signalled, told):
                message = "".join(words[number] for number in numbers)
                readings = slow_readings(words, message)
                parts = slow_parts(message, first)
                self.assertEqual(answer, [len(readings)] + rows(*[first[part] for part in parts]), (numbers, set_count))

    def test_the_hoists_say_what_is_signalled(self):
        chance = random.Random(17)
        words = ["A", "1", "B2", "AB", "Z09", "1A1A", "ABCDEF", "000"]
        book = load(book_of_words(words))
        for set_count in (1, 2, 3):
            for time in range(30):
                numbers = [chance.randrange(8) for place in range(10)]
                said, signalled = answered(sets(set_count), book, say(numbers), signal(numbers))[2:]
                self.assertEqual(said, row("".join(words[number] for number in numbers)))
                read_again = answered(sets(set_count), *[read(hoist) for hoist in hoists_told(signalled[1:])])[1:]
                self.assertEqual(joined([one[1:] for one in read_again]), said[1:])
                counted, hoisted = answered(sets(set_count), book, ways(said[1:]), hoists(said[1:]))[2:]
                self.assertEqual(signalled, counted + hoisted)


if __name__ == "__main__":
    unittest.main()
