"""The calls load and text."""

import unittest

from tests.helper import GREATEST, LEAST, answered, assert_nothing_changed, codes, load, row, text

WORDS = [first + second for first in "ABCDEFGHI" for second in "012345"]
FORTY_EIGHT = "".join(f"{word} {number}\n" for number, word in enumerate(WORDS[:48]))


class Load(unittest.TestCase):
    def loads(self, told, written, count):
        """The text is a book, which is written so."""
        self.assertEqual(answered(load("Z 9"), load(told), text()), [[1], [count], row(written)], told)

    def wrong(self, told, line):
        """The text has its first wrong line there."""
        assert_nothing_changed(self, load(told), [-1000 - line])

    def test_no_entries_at_first(self):
        self.assertEqual(answered(text()), [row("")])

    def test_the_example(self):
        self.loads("A 1\nB 2\nAB 3\n", "A 1\nB 2\nAB 3\n", 3)

    def test_the_order_is_kept(self):
        self.loads("B 20\nA 100\n9 3\nAB 0\n", "B 20\nA 100\n9 3\nAB 0\n", 4)

    def test_a_later_book_takes_the_place_of_an_earlier_one(self):
        self.assertEqual(
            answered(load("A 1\nB 2"), load("C 3\nA 2"), text(), load(""), text()),
            [[2], [2], row("C 3\nA 2\n"), [0], row("")],
        )

    def test_no_bytes(self):
        self.loads("", "", 0)

    def test_with_and_without_a_last_line_end(self):
        self.loads("A 1", "A 1\n", 1)
        self.loads("A 1\n", "A 1\n", 1)
        self.loads("A 1\n\n", "A 1\n", 1)
        self.loads("\n", "", 0)
        self.loads("\nA 1", "A 1\n", 1)

    def test_a_thousand_bytes(self):
        self.loads("A 1" + " " * 997, "A 1\n", 1)
        self.loads("A 1 #" + "~" * 994 + "\n", "A 1\n", 1)
        self.loads("\n" * 997 + "A 1", "A 1\n", 1)
        self.loads("\n" * 996 + "A 1\n", "A 1\n", 1)
        self.loads(" " * 996 + "A 1\n", "A 1\n", 1)
        self.wrong("\n" * 999 + "A", 1000)
        self.wrong("\n" * 998 + "A\n", 999)
        self.wrong("A" * 1000, 1)

    def test_blanks(self):
        self.loads("  A   1  \n   \nB 2", "A 1\nB 2\n", 2)

    def test_remarks(self):
        self.loads("#\n# A 1\nA 1#B 2\nB 2 # C 3 # D 4\n   # \nC 3##", "A 1\nB 2\nC 3\n", 3)
        self.loads("# only", "", 0)
        self.wrong("A#1", 1)
        self.wrong("A # 1", 1)
        self.wrong("A 1\nA#A 1", 2)

    def test_a_remark_ends_with_its_line(self):
        self.loads("A 1 # one\nB 2", "A 1\nB 2\n", 2)

    def test_wrong_bytes(self):
        for byte in (0, 1, 9, 11, 13, 31, 127, 128, 200, 255):
            for start, line in (("", 1), ("#", 1), ("A 1", 1), ("A 1 # ", 1), ("\n\n", 3), ("A 1\n", 2)):
                self.wrong(codes(start) + [byte], line)
                self.wrong(codes(start) + [byte, 10], line)
                self.wrong(codes(start) + [byte] + codes(" # B 2\nB"), line)

    def test_the_least_and_the_greatest_fit_byte(self):
        self.loads("A 1# ~}!", "A 1\n", 1)
        self.wrong("~", 1)
        self.wrong("A 1 ~", 1)
        self.wrong("!", 1)

    def test_words_of_one_to_six_signs(self):
        for word in ("A", "0", "AZ", "09", "A1B", "ABC0", "Z9Z9Z", "ABCDEF", "012345"):
            self.loads(f"{word} 7", f"{word} 7\n", 1)
        for word in ("ABCDEFG", "0123456", "A" * 60):
            self.wrong(f"{word} 7", 1)

    def test_words_that_are_not_of_signs(self):
        for word in ("a", "x", "Aa", "aA", "@", "[", "/", ":", "A-B", "A~", '"A"'):
            self.wrong(f"{word} 7", 1)

    def test_numbers(self):
        for number in ("0", "9", "10", "100", "999", "1000", "9999", "9090"):
            self.loads(f"A {number}", f"A {number}\n", 1)
        for number in ("00", "01", "007", "0000", "0009", "09999", "10000", "99999", "-1", "+1", "1.0", "1A", "A",
                       "A1", "/", ":", "1/", "1:", "1_0", "1,0", "9" * 100):
            self.wrong(f"A {number}", 1)

    def test_a_zero_is_counted_as_a_number(self):
        self.wrong("A 0\nB 0", 2)

    def test_words_of_a_line(self):
        for line in ("A", "1", "A1", "A 1 B", "A 1 2", "A B 1", "A 1 B 2", "1 A"):
            self.wrong(line, 1)

    def test_a_word_told_twice(self):
        self.wrong("A 1\nB 2\nA 3", 3)
        self.wrong("AB 1\n\nAB 2\nC 3", 3)
        self.loads("A 1\nAA 2\nAB 3\nBA 4", "A 1\nAA 2\nAB 3\nBA 4\n", 4)

    def test_a_number_told_twice(self):
        self.wrong("A 1\nB 2\nC 1", 3)
        self.wrong("A 20\n# \nB 20\n", 3)
        self.wrong("A 1\nA 1", 2)
        self.loads("A 1\nB 11\n1 2\n2 3", "A 1\nB 11\n1 2\n2 3\n", 4)

    def test_a_word_of_an_earlier_book_may_be_told_again(self):
        self.assertEqual(answered(load("A 1"), load("A 1"), text()), [[1], [1], row("A 1\n")])

    def test_forty_eight_entries(self):
        self.loads(FORTY_EIGHT, FORTY_EIGHT, 48)
        self.loads(FORTY_EIGHT + "\n# more\n  \n", FORTY_EIGHT, 48)

    def test_one_entry_more(self):
        self.wrong(FORTY_EIGHT + "ZZ 99", 49)
        self.wrong("\n" + FORTY_EIGHT + "# more\nZZ 99", 51)
        self.wrong(FORTY_EIGHT + "\tA", 49)

    def test_the_first_wrong_line_is_told(self):
        self.wrong("A 1\nB\nC\n\t", 2)
        self.wrong("A\nB \x7f\n", 1)
        self.wrong("A 1\n\nB 2 #\x00\nB\n", 3)

    def test_a_refused_book_is_not_half_taken(self):
        self.assertEqual(
            answered(load("Q 4\nR 5"), load("A 1\nB 2\nC"), text()),
            [[2], [-1003], row("Q 4\nR 5\n")],
        )

    def test_numbers_that_are_no_byte(self):
        for number in (-1, 256, 266, 10 - 256, LEAST, GREATEST):
            assert_nothing_changed(self, load([number]), [-1])
            assert_nothing_changed(self, load(codes("A 1\n") + [number]), [-1])
            assert_nothing_changed(self, load([number] + codes("\nA 1")), [-1])
            assert_nothing_changed(self, load(codes("# ") + [number]), [-1])

    def test_no_byte_goes_ahead_of_a_wrong_line(self):
        assert_nothing_changed(self, load(codes("A\n\t\n") + [256]), [-1])
        assert_nothing_changed(self, load([65] * 999 + [GREATEST]), [-1])

    def test_asking_for_the_text_changes_nothing(self):
        assert_nothing_changed(self, text())

    def test_a_written_book_is_the_same_book(self):
        self.assertEqual(answered(load(FORTY_EIGHT), text())[1], row(FORTY_EIGHT))


if __name__ == "__main__":
    unittest.main()
