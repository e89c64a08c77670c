"""The call entries."""

import unittest

from tests.helper import answered, assert_nothing_changed, entries, load, sets


class Entries(unittest.TestCase):
    def test_at_the_beginning(self):
        self.assertEqual(answered(entries()), [[1, 0]])

    def test_numbers_in_the_order_of_the_book(self):
        self.assertEqual(answered(load("B 20\nA 100\n9 3\nAB 0\n"), entries()), [[4], [1, 4, 20, 100, 3, 0]])
        self.assertEqual(answered(load("A 9999"), entries()), [[1], [1, 1, 9999]])

    def test_after_sets(self):
        told = answered(sets(3), entries(), sets(2), entries(), sets(1), entries())
        self.assertEqual(told[1::2], [[3, 0], [2, 0], [1, 0]])

    def test_sets_and_book_do_not_meddle(self):
        told = answered(sets(2), load("A 7"), entries(), sets(3), entries(), load("B 8\nC 1"), entries())
        self.assertEqual(told, [[0], [1], [2, 1, 7], [0], [3, 1, 7], [2], [3, 2, 8, 1]])

    def test_after_refusals(self):
        told = answered(
            sets(2), load("A 7\nB 3"),
            load("C 1\nD"), entries(), load([256]), entries(), sets(4), entries(), sets(0), entries(),
        )
        self.assertEqual(told[2:], [[-1002], [2, 2, 7, 3], [-1], [2, 2, 7, 3], [-1], [2, 2, 7, 3], [-1], [2, 2, 7, 3]])

    def test_after_an_empty_book(self):
        self.assertEqual(answered(load("A 7"), load("# none\n"), entries()), [[1], [0], [1, 0]])

    def test_forty_eight_entries(self):
        book = "".join(f"A{first}{second} {9000 - first * 10 - second}\n" for first in range(6) for second in range(8))
        numbers = [9000 - first * 10 - second for first in range(6) for second in range(8)]
        self.assertEqual(answered(load(book), entries()), [[48], [1, 48] + numbers])

    def test_asking_changes_nothing(self):
        assert_nothing_changed(self, entries())


if __name__ == "__main__":
    unittest.main()
