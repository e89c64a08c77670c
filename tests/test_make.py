"""The call make."""

import itertools
import unittest

from tests.helper import (
    GREATEST, LEAST, answered, answered_in_lines, assert_nothing_changed, make, read, row, sets, slow_hoists,
)


class Make(unittest.TestCase):
    def test_own_flags(self):
        for sign in "ABCDEFGHIJKLMNOPQRSTUVWXYZ0123456789":
            self.assertEqual(answered(make(sign)), [row(sign)])
        self.assertEqual(answered(make("Q7AZ09B")), [row("Q7AZ09B")])

    def test_the_example(self):
        self.assertEqual(answered(make("A11"), make("A1A")), [row("A1x"), [-3]])

    def test_own_flag_first(self):
        self.assertEqual(answered(sets(2), make("AA"), make("AAA")), [[0], row("AA"), row("AAx")])
        self.assertEqual(answered(sets(3), make("AAAA"), make("1111")), [[0], row("AAAx"), row("111x")])

    def test_lesser_substitute_first(self):
        self.assertEqual(answered(make("AAA"), make("AAAA")), [row("Axy"), row("Axyz")])
        self.assertEqual(answered(sets(2), make("AAAAAAA")), [[0], row("AAxxyyz")])
        self.assertEqual(answered(make("ABAB"), make("ABCCBA")), [row("ABxy"), row("ABCzyx")])

    def test_a_first_choice_that_does_not_hold(self):
        # With one set the first substitute serves the second A alone if none serves it further down.
        self.assertEqual(answered(make("AABA")), [row("AxBy")])
        self.assertEqual(answered(make("AAB1A")), [[-3]])
        self.assertEqual(answered(sets(2), make("AAAAA1A")), [[0], row("Axxyy1A")])
        self.assertEqual(answered(sets(2), make("AAB1ABA")), [[0], row("AxB1ABx")])

    def test_as_often_as_there_are_sets(self):
        self.assertEqual(answered(make("AAAAA")), [[-3]])
        self.assertEqual(answered(make("A1A"), sets(2), make("A1A")), [[-3], [0], row("A1A")])
        self.assertEqual(
            answered(sets(2), make("A1A1A"), sets(3), make("A1A1A"), make("A1A1A1A")),
            [[0], [-3], [0], row("A1A1A"), [-3]],
        )

    def test_no_hoist_says_them(self):
        for signs in ("A1A1A1A", "1A1A1A1"):
            assert_nothing_changed(self, make(signs), [-3])
        for signs in ("A1A", "AAAAA", "AAB1A", "AAAAAAA", "ABCDD1D", "1A1"):
            self.assertEqual(answered(make(signs)), [[-3]])
        for signs in ("A1A1A", "BCDAAA", "1A1A1", "A1AA1AA"):
            self.assertEqual(answered(sets(2), make(signs)), [[0], [-3]])

    def test_refused(self):
        for signs in ("", "ABCDEFGH", "A" * 60, "a", "x", "Ax", "A z", "@", "[", "/", ":", "A\n", "~"):
            assert_nothing_changed(self, make(signs), [-1])
        for number in (-1, 0, 255, 256, 65 + 256, -65, LEAST, GREATEST):
            assert_nothing_changed(self, make([number]), [-1])
            assert_nothing_changed(self, make([65, 49, number]), [-1])
            assert_nothing_changed(self, make([number, 49, 65]), [-1])

    def test_no_sign_goes_ahead_of_no_hoist(self):
        assert_nothing_changed(self, make("A1A1A1a"), [-1])
        assert_nothing_changed(self, make("A1A1A1A1"), [-1])

    def test_asking_changes_nothing(self):
        for signs in ("AA", "A11", "1", "ABCDEFG"):
            assert_nothing_changed(self, make(signs))


class AllHoists(unittest.TestCase):
    def check(self, alphabet, longest, set_count):
        first = slow_hoists(alphabet, longest, set_count)
        signs = [flag for flag in alphabet if flag not in "xyz"]
        asked = [
            "".join(one)
            for length in range(1, longest + 1)
            for one in itertools.product(signs, repeat=length)
        ]
        told = answered_in_lines([sets(set_count)], [make(one) for one in asked])
        for one, answer in zip(asked, told):
            expected = row(first[one]) if one in first else [-3]
            self.assertEqual(answer, expected, (one, set_count))
        return first

    def test_short_ones_of_two_letters_and_two_figures(self):
        for set_count in (1, 2, 3):
            self.check("AB12xyz", 5, set_count)

    def test_long_ones_of_a_letter_and_a_figure(self):
        for set_count in (1, 2, 3):
            self.check("A1xyz", 7, set_count)

    def test_what_is_made_is_read_again(self):
        for set_count in (1, 2, 3):
            first = slow_hoists("AB1xyz", 4, set_count)
            told = answered_in_lines([sets(set_count)], [read(first[said]) for said in first])
            self.assertEqual(told, [row(said) for said in first])


if __name__ == "__main__":
    unittest.main()
