"""The list of calls that is handed in and the list that is given back."""

import unittest

from flaghoistsyard.signals import answers
from tests.helper import (
    GREATEST, LEAST, answered, codes, double, entries, hoists, joined, load, make, meaning, nth, prefix, read, row,
    rows, say, sets, signal, text, told_apart, ways,
)


def refuse(*arguments):
    raise AssertionError("what is handed in is changed")


class Untouched(list):
    """A list that tells when it is changed, also for a while."""


for name in ("append", "extend", "insert", "pop", "remove", "clear", "sort", "reverse",
             "__setitem__", "__delitem__", "__iadd__", "__imul__"):
    setattr(Untouched, name, refuse)

EVERY_CALL = [
    sets(2), read("AAx"), make("AAA"), hoists("A1A1A1"), load("A 1 # one\nB 2\nAB 3\n"), text(), ways("AB"),
    nth(1, "AB"), say([3, 2]), double(), prefix(), meaning(3), signal([3, 1]), entries(),
    nth(2, "AB"), nth(0, "b"), say([4]), meaning(0), signal([1, 0]), signal([3] * 31),
    sets(0), read("a"), make(""), hoists("a"), load("A 1\nB"), ways([-1]), text(), read("AA"), ways(""), entries(),
    load(""), double(), prefix(), entries(),
]
EVERY_ANSWER = [
    [0], row("AAA"), row("AAx"), rows("A1A1", "A1"), [3], row("A 1\nB 2\nAB 3\n"), [2],
    row([3]), row("ABB"), [1] + row("AB") + row([1, 2]) + row([3]), [0], row("AB"), [2] + rows("ABA"), [2, 3, 1, 2, 3],
    [-4], [-1], [-5], [-5], [-5], [-6],
    [-1], [-2], [-1], [-1], [-1002], [-1], row("A 1\nB 2\nAB 3\n"), row("AA"), [1], [2, 3, 1, 2, 3],
    [0], [0], [1], [2, 0],
]


class Answers(unittest.TestCase):
    def test_number_by_number(self):
        self.assertEqual(answers([0, 2]), [1, 0])
        self.assertEqual(answers([0, 4]), [1, -1])
        self.assertEqual(answers([1, 2, 65, 120]), [3, 2, 65, 65])
        self.assertEqual(answers([1, 0]), [1, -2])
        self.assertEqual(answers([2, 3, 65, 49, 49]), [4, 3, 65, 49, 120])
        self.assertEqual(answers([3, 3, 65, 49, 65]), [6, 2, 2, 65, 49, 1, 65])
        self.assertEqual(answers([3, 0]), [1, 0])
        self.assertEqual(answers([4, 3, 65, 32, 49, 5]), [1, 1, 5, 4, 65, 32, 49, 10])
        self.assertEqual(answers([5]), [1, 0])
        self.assertEqual(answers([6, 1, 65, 6, 0]), [1, 0, 1, 1])
        self.assertEqual(answers([4, 1, 65]), [1, -1001])
        self.assertEqual(answers([7, 0, 0]), [1, 0])
        self.assertEqual(answers([7, 0, 1, 65]), [1, -4])
        self.assertEqual(answers([8, 0]), [1, 0])
        self.assertEqual(answers([9]), [1, 0])
        self.assertEqual(answers([10]), [1, 1])
        self.assertEqual(answers([11, 1]), [1, -5])
        self.assertEqual(answers([12, 0]), [2, 1, 0])
        self.assertEqual(answers([13]), [2, 1, 0])

    def test_the_example_number_by_number(self):
        book = [4, 13] + codes("A 1\nB 2\nAB 3\n")
        self.assertEqual(answers(book + [7, 0, 2, 65, 66]), [1, 3, 3, 2, 1, 2])
        self.assertEqual(answers(book + [7, 1, 2, 65, 66, 7, 2, 2, 65, 66]), [1, 3, 2, 1, 3, 1, -4])
        self.assertEqual(answers(book + [8, 2, 3, 1]), [1, 3, 4, 3, 65, 66, 65])
        self.assertEqual(answers(book + [9]), [1, 3, 9, 1, 2, 65, 66, 2, 1, 2, 1, 3])
        self.assertEqual(answers(book + [10]), [1, 3, 1, 0])
        self.assertEqual(answers(book + [11, 3]), [1, 3, 3, 2, 65, 66])
        self.assertEqual(answers(book + [12, 2, 1, 2]), [1, 3, 5, 2, 1, 2, 65, 66])
        self.assertEqual(answers(book + [13]), [1, 3, 5, 1, 3, 1, 2, 3])

    def test_the_least_and_the_greatest_numbers(self):
        told = answered(
            *[call for number in (LEAST, GREATEST) for call in (
                sets(number), read([number]), make([number]), hoists([number]), load([number]), ways([number]),
                nth(number, ""), nth(0, [number]), nth(number, [number]),
                say([number]), meaning(number), signal([number]),
            )],
            text(), entries(),
        )
        refusals = [[-1]] * 6 + [[-4], [-1], [-1]] + [[-5]] * 3
        self.assertEqual(told, refusals + refusals + [row(""), [1, 0]])

    def test_every_call_behind_another(self):
        self.assertEqual(answered(*EVERY_CALL), EVERY_ANSWER)

    def test_any_call_first(self):
        self.assertEqual(
            [answers(call) for call in (read("A"), make("A"), hoists("A"), load("A 1"), text(), ways("A"))],
            [[2, 1, 65], [2, 1, 65], [3, 1, 1, 65], [1, 1], [1, 0], [1, 0]],
        )
        calls = (sets(3), nth(0, ""), say([]), double(), prefix(), meaning(0), signal([]), entries())
        self.assertEqual(
            [answers(call) for call in calls],
            [[1, 0], [1, 0], [1, 0], [1, 0], [1, 1], [1, -5], [2, 1, 0], [2, 1, 0]],
        )

    def test_numbers_within_rows_are_not_taken_for_calls(self):
        self.assertEqual(
            answered(read([0, 2]), read([5, 5, 5]), load([4, 0]), ways([6, 0]), nth(9, [9]), nth(0, [13, 13]),
                     say([9, 9]), signal([13]), meaning(9), read("AA")),
            [[-2], [-2], [-1001], [-1], [-1], [-1], [-5], [-5], [-5], [-2]],
        )

    def test_a_hundred_calls(self):
        told = answered(load("A 1\nAA 2"), *[ways("A" * 60)] * 97, text(), read("AA"))
        self.assertEqual(told, [[2]] + [[2504730781961]] * 97 + [row("A 1\nAA 2\n"), [-2]])

    def test_full_rows(self):
        told = answered(*[hoists("A1" * 30)] * 98, load(" " * 1000), text())
        self.assertEqual(told, [rows(*["A1"] * 30)] * 98 + [[0], row("")])
        told = answered(*[load("A 1\n" + "#" * 996)] * 15, text())
        self.assertEqual(told, [[1]] * 15 + [row("A 1\n")])

    def test_whole_numbers_alone(self):
        told = answers(joined(EVERY_CALL))
        self.assertIs(type(told), list)
        self.assertEqual({type(number) for number in told}, {int})

    def test_what_is_handed_in_is_not_changed(self):
        calls = joined(EVERY_CALL)
        handed = Untouched(calls)
        self.assertEqual(told_apart(answers(handed)), EVERY_ANSWER)
        self.assertEqual(list(handed), calls)

    def test_nothing_is_kept(self):
        first = answered(sets(3), load("A 1"), read("AAA"), text())
        self.assertEqual(first, [[0], [1], row("AAA"), row("A 1\n")])
        self.assertEqual(answered(read("AA"), text(), ways("A")), [[-2], row(""), [0]])
        self.assertEqual(answered(*EVERY_CALL), EVERY_ANSWER)
        self.assertEqual(answered(*EVERY_CALL), EVERY_ANSWER)

    def test_what_was_given_back_may_be_changed(self):
        calls = [4] + row("A 1") + [5]
        answers(calls).clear()
        given = answers(calls)
        given[3] = 66
        self.assertEqual(answers(calls), [1, 1, 5, 4] + codes("A 1\n"))


if __name__ == "__main__":
    unittest.main()
