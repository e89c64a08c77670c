"""The call hoists, and the first promise."""

import itertools
import random
import unittest

from tests.helper import (
    GREATEST, LEAST, answered, answered_in_lines, assert_nothing_changed, codes, hoists, hoists_told, read, row, rows,
    sets, slow_hoists, slow_parts,
)

SIXTY = "ABCDEFGHIJKLMNOPQRSTUVWXYZ0123456789ABCDEFGHIJKLMNOPQRSTUVWX"


class Parting(unittest.TestCase):
    def test_the_empty_message(self):
        self.assertEqual(answered(hoists("")), [[0]])

    def test_one_hoist(self):
        self.assertEqual(answered(hoists("A")), [rows("A")])
        self.assertEqual(answered(hoists("A11")), [rows("A1x")])
        self.assertEqual(answered(hoists("ABCDEFG")), [rows("ABCDEFG")])

    def test_the_first_part_is_longest(self):
        self.assertEqual(answered(hoists("ABCDEFGH")), [rows("ABCDEFG", "H")])
        self.assertEqual(answered(hoists("A1A")), [rows("A1", "A")])
        self.assertEqual(answered(hoists("AAAAA")), [rows("Axyz", "A")])
        self.assertEqual(answered(hoists("AAAAAAAAA")), [rows("Axyz", "Axyz", "A")])

    def test_sixty_signs(self):
        parts = [SIXTY[start:start + 7] for start in range(0, 60, 7)]
        self.assertEqual(answered(hoists(SIXTY)), [rows(*parts)])
        self.assertEqual(answered(hoists("A" * 60)), [rows(*["Axyz"] * 15)])
        self.assertEqual(answered(sets(2), hoists("A" * 60))[1], rows(*["AAxxyyz"] * 8, "AAxx"))
        self.assertEqual(answered(sets(3), hoists("1" * 60))[1], rows(*["111xxxy"] * 8, "111x"))
        self.assertEqual(answered(hoists("A1" * 30)), [rows(*["A1"] * 30)])

    def test_the_number_of_sets_counts(self):
        self.assertEqual(
            answered(hoists("A1A1A1A"), sets(2), hoists("A1A1A1A"), sets(3), hoists("A1A1A1A")),
            [rows("A1", "A1", "A1", "A"), [0], rows("A1A1", "A1A"), [0], rows("A1A1A1", "A")],
        )

    def test_the_longest_first_part_may_cost_a_hoist(self):
        # No hoist of two sets says BCDAAA, but ABCDAxx says ABCDAAA.
        self.assertEqual(answered(sets(2), hoists("BCDAAA"))[1], rows("BCDAA", "A"))
        self.assertEqual(answered(sets(2), hoists("EFGHIJABCDAAA"))[1], rows("EFGHIJ", "ABCDAxx"))
        self.assertEqual(answered(sets(2), hoists("123456ABCDAAAK"))[1], rows("123456A", "BCDAA", "AK"))

    def test_refused(self):
        for message in ("a", "x", "Ax", "A B", "@", "[", "/", ":", "A\n", "A" * 59 + "~"):
            assert_nothing_changed(self, hoists(message), [-1])
        for number in (-1, 0, 255, 256, 65 + 256, -65, LEAST, GREATEST):
            assert_nothing_changed(self, hoists([number]), [-1])
            assert_nothing_changed(self, hoists([65] * 59 + [number]), [-1])
            assert_nothing_changed(self, hoists([number, 49]), [-1])

    def test_asking_changes_nothing(self):
        for message in ("", "A1A", SIXTY, "A" * 60):
            assert_nothing_changed(self, hoists(message))


class FirstPromise(unittest.TestCase):
    def test_against_all_ways_to_part_short_messages(self):
        for set_count in (1, 2):
            first = slow_hoists("A1xyz", 7, set_count)
            messages = ["".join(one) for one in itertools.product("A1", repeat=9)]
            told = answered_in_lines([sets(set_count)], [hoists(message) for message in messages])
            for message, answer in zip(messages, told):
                parts = slow_parts(message, first)
                self.assertEqual(answer, rows(*[first[part] for part in parts]), (message, set_count))

    def test_against_all_ways_to_part_messages_of_more_signs(self):
        first = slow_hoists("AB1xyz", 7, 1)
        chance = random.Random(5)
        messages = ["".join(chance.choice("AAB1") for place in range(12)) for time in range(40)]
        told = answered_in_lines([], [hoists(message) for message in messages])
        for message, answer in zip(messages, told):
            parts = slow_parts(message, first)
            self.assertEqual(answer, rows(*[first[part] for part in parts]), message)

    def test_the_hoists_say_the_message(self):
        chance = random.Random(7)
        for set_count in (1, 2, 3):
            for signs in ("A1", "ABC", "AB12", SIXTY):
                message = "".join(chance.choice(signs) for place in range(60))
                told = hoists_told(answered(sets(set_count), hoists(message))[1])
                said = answered(sets(set_count), *[read(hoist) for hoist in told])[1:]
                self.assertEqual([sign for one in said for sign in one[1:]], codes(message))
                self.assertEqual([one[0] for one in said], [len(hoist) for hoist in told])

    def test_each_hoist_stands_as_a_row(self):
        self.assertEqual(answered(hoists("A1A")), [[2] + row("A1") + row("A")])


if __name__ == "__main__":
    unittest.main()
