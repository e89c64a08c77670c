"""The calls sets and read."""

import unittest

from tests.helper import GREATEST, LEAST, answered, assert_nothing_changed, read, row, sets


class Sets(unittest.TestCase):
    def test_one_to_three_sets(self):
        for count in (1, 2, 3):
            self.assertEqual(answered(sets(count)), [[0]])

    def test_they_hold_from_now_on(self):
        self.assertEqual(
            answered(read("AA"), sets(2), read("AA"), read("AAA"), sets(3), read("AAA"), sets(1), read("AA")),
            [[-2], [0], row("AA"), [-2], [0], row("AAA"), [0], [-2]],
        )

    def test_other_counts_are_refused(self):
        for count in (0, 4, -1, -2, -3, 5, LEAST, GREATEST):
            assert_nothing_changed(self, sets(count), [-1])


class ReadOwn(unittest.TestCase):
    def test_every_sign(self):
        for sign in "ABCDEFGHIJKLMNOPQRSTUVWXYZ0123456789":
            self.assertEqual(answered(read(sign)), [row(sign)])

    def test_one_to_seven_flags(self):
        for length in range(1, 8):
            self.assertEqual(answered(read("Q7AZ09B"[:length])), [row("Q7AZ09B"[:length])])

    def test_none_or_eight_flags(self):
        for flags in ("", "ABCDEFGH", "ABCDEFGHI", "A" * 60):
            assert_nothing_changed(self, read(flags), [-2])

    def test_bytes_that_are_no_flag(self):
        for byte in (0, 1, 2, 3, 10, 32, 47, 58, 64, 91, 97, 119, 123, 126, 127, 128, 255):
            assert_nothing_changed(self, read([byte]), [-2])
            assert_nothing_changed(self, read([65, 66, byte]), [-2])

    def test_numbers_that_are_no_byte(self):
        for number in (-1, 256, -65, 65 + 256, LEAST, GREATEST):
            assert_nothing_changed(self, read([number]), [-1])
            assert_nothing_changed(self, read([65, number]), [-1])
            assert_nothing_changed(self, read([number, 65]), [-1])

    def test_each_flag_as_often_as_there_are_sets(self):
        for count in (1, 2, 3):
            for flag in "A7":
                fit = flag * count + "B"
                self.assertEqual(answered(sets(count), read(fit)), [[0], row(fit)])
                self.assertEqual(answered(sets(count), read(fit + flag)), [[0], [-2]])
                self.assertEqual(answered(sets(count), read("C" + fit + flag)), [[0], [-2]])

    def test_each_substitute_as_often_as_there_are_sets(self):
        for count in (1, 2, 3):
            for place, flag in enumerate("xyz"):
                said = "ABC" + "ABC"[place] * count
                self.assertEqual(answered(sets(count), read("ABC" + flag * count)), [[0], row(said)])
                self.assertEqual(answered(sets(count), read("ABC" + flag * (count + 1))), [[0], [-2]])


class ReadSubstitutes(unittest.TestCase):
    def test_the_examples(self):
        self.assertEqual(answered(read("Ax"), read("A1Bx")), [row("AA"), row("A1BA")])
        self.assertEqual(answered(read("A1x")), [row("A11")])

    def test_first_second_third(self):
        self.assertEqual(answered(read("ABCx")), [row("ABCA")])
        self.assertEqual(answered(read("ABCy")), [row("ABCB")])
        self.assertEqual(answered(read("ABCz")), [row("ABCC")])
        self.assertEqual(answered(read("904x"), read("904y"), read("904z")), [row("9049"), row("9040"), row("9044")])

    def test_only_the_class_just_above_counts(self):
        self.assertEqual(answered(read("1A2Bxyz")), [row("1A2BABA")])
        self.assertEqual(answered(read("AB12xCy")), [row("AB121CB")])
        self.assertEqual(answered(read("A1B2C3z")), [row("A1B2C33")])
        self.assertEqual(answered(read("1A2B3Cz")), [row("1A2B3CC")])

    def test_signs_said_by_substitutes_count(self):
        self.assertEqual(answered(read("Axy")), [row("AAA")])
        self.assertEqual(answered(read("Axyz")), [row("AAAA")])
        self.assertEqual(answered(read("AxBy")), [row("AABA")])
        self.assertEqual(answered(read("AxBz")), [row("AABB")])
        self.assertEqual(answered(read("AB1xCz")), [row("AB11CC")])
        self.assertEqual(answered(sets(2), read("ABxzy")), [[0], row("ABAAB")])

    def test_class_of_a_sign_said_by_a_substitute(self):
        self.assertEqual(answered(read("A1xy")), [row("A111")])
        self.assertEqual(answered(read("1Axy")), [row("1AAA")])

    def test_at_the_top(self):
        for flags in ("x", "y", "z", "xA", "xyz", "zABCDEF"):
            assert_nothing_changed(self, read(flags), [-3])

    def test_too_few_signs_of_the_class(self):
        for flags in ("Ay", "Az", "ABz", "1y", "12z", "AB1y", "AB12z", "12A3Bz", "12Az", "ABC1z", "123Ay"):
            assert_nothing_changed(self, read(flags), [-3])

    def test_a_hoist_that_says_nothing_further_down(self):
        for flags in ("AyBC", "ABz1", "A1yBCDx"):
            assert_nothing_changed(self, read(flags), [-3])

    def test_asking_changes_nothing(self):
        for flags in ("A1Bx", "A", "9xyz"):
            assert_nothing_changed(self, read(flags))


class SeveralRefusals(unittest.TestCase):
    def test_no_byte_goes_first(self):
        assert_nothing_changed(self, read([120, 120, 120, 120, 256]), [-1])
        assert_nothing_changed(self, read([97, 97, -1]), [-1])
        assert_nothing_changed(self, read([65] * 59 + [LEAST]), [-1])

    def test_no_hoist_goes_ahead_of_nothing_said(self):
        assert_nothing_changed(self, read("xxxx"), [-2])
        assert_nothing_changed(self, read("xa"), [-2])
        assert_nothing_changed(self, read("zABCDEFG"), [-2])


if __name__ == "__main__":
    unittest.main()
