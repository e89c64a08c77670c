"""The list of calls that is handed in and the list that is given back."""

import unittest

from flaghoistsyard.signals import answers
from tests.helper import (
    answered, codes, hoists, joined, load, make, read, row, rows, sets, text, told_apart, ways,
)


def refuse(*arguments):
    raise AssertionError("what is handed in is changed")


class Untouched(list):
    """A list that tells when it is changed, also for a while."""


for name in ("append", "extend", "insert", "pop", "remove", "clear", "sort", "reverse",
             "__setitem__", "__delitem__", "__iadd__", "__imul__"):
    setattr(Untouched, name, refuse)

EVERY_CALL = [
    sets(2), read("AAx"), make("AAA"), hoists("A1A1A1"), load("A 1 # one\nB 2\nAB 3\n"), text(), ways("AB"),
    sets(0), read("a"), make(""), hoists("a"), load("A 1\nB"), ways([-1]), text(), read("AA"), ways(""), load(""),
]
EVERY_ANSWER = [
    [0], row("AAA"), row("AAx"), rows("A1A1", "A1"), [3], row("A 1\nB 2\nAB 3\n"), [2],
    [-1], [-2], [-1], [-1], [-1002], [-1], row("A 1\nB 2\nAB 3\n"), row("AA"), [1], [0],
]


class Answers(unittest.TestCase):
    def test_number_by_number(self):
        self.assertEqual(answers([0, 2]), [1, 0])
        self.assertEqual(answers([0, 4]), [1, -1])
        self.assertEqual(answers([1, 2, 65, 120]), [3, 2, 65, 65])
        self.assertEqual(answers([1, 0]), [1, -2])
        self.assertEqual(answers([2, 3, 65, 49, 49]), [4, 3, 65, 49, 120])
        self.assertEqual(answers([3, 3, 65, 49, 65]), [6, 2, 2, 65, 49, 1, 65])
        self.assertEqual(answers([3, 0]), [1, 0])
        self.assertEqual(answers([4, 3, 65, 32, 49, 5]), [1, 1, 5, 4, 65, 32, 49, 10])
        self.assertEqual(answers([5]), [1, 0])
        self.assertEqual(answers([6, 1, 65, 6, 0]), [1, 0, 1, 1])
        self.assertEqual(answers([4, 1, 65]), [1, -1001])

    def test_every_call_behind_another(self):
        self.assertEqual(answered(*EVERY_CALL), EVERY_ANSWER)

    def test_any_call_first(self):
        self.assertEqual(
            [answers(call) for call in (read("A"), make("A"), hoists("A"), load("A 1"), text(), ways("A"))],
            [[2, 1, 65], [2, 1, 65], [3, 1, 1, 65], [1, 1], [1, 0], [1, 0]],
        )

    def test_numbers_within_rows_are_not_taken_for_calls(self):
        self.assertEqual(
            answered(read([0, 2]), read([5, 5, 5]), load([4, 0]), ways([6, 0]), read("AA")),
            [[-2], [-2], [-1001], [-1], [-2]],
        )

    def test_a_hundred_calls(self):
        told = answered(load("A 1\nAA 2"), *[ways("A" * 60)] * 97, text(), read("AA"))
        self.assertEqual(told, [[2]] + [[2504730781961]] * 97 + [row("A 1\nAA 2\n"), [-2]])

    def test_full_rows(self):
        told = answered(*[hoists("A1" * 30)] * 98, load(" " * 1000), text())
        self.assertEqual(told, [rows(*["A1"] * 30)] * 98 + [[0], row("")])
        told = answered(*[load("A 1\n" + "#" * 996)] * 15, text())
        self.assertEqual(told, [[1]] * 15 + [row("A 1\n")])

    def test_whole_numbers_alone(self):
        told = answers(joined(EVERY_CALL))
        self.assertIs(type(told), list)
        self.assertEqual({type(number) for number in told}, {int})

    def test_what_is_handed_in_is_not_changed(self):
        calls = joined(EVERY_CALL)
        handed = Untouched(calls)
        self.assertEqual(told_apart(answers(handed)), EVERY_ANSWER)
        self.assertEqual(list(handed), calls)

    def test_nothing_is_kept(self):
        first = answered(sets(3), load("A 1"), read("AAA"), text())
        self.assertEqual(first, [[0], [1], row("AAA"), row("A 1\n")])
        self.assertEqual(answered(read("AA"), text(), ways("A")), [[-2], row(""), [0]])
        self.assertEqual(answered(*EVERY_CALL), EVERY_ANSWER)
        self.assertEqual(answered(*EVERY_CALL), EVERY_ANSWER)

    def test_what_was_given_back_may_be_changed(self):
        calls = [4] + row("A 1") + [5]
        answers(calls).clear()
        given = answers(calls)
        given[3] = 66
        self.assertEqual(answers(calls), [1, 1, 5, 4] + codes("A 1\n"))


if __name__ == "__main__":
    unittest.main()
