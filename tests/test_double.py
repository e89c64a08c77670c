"""The call double, and the second promise."""

import itertools
import random
import unittest

from tests.helper import (
    answered, answered_in_lines, assert_nothing_changed, assert_nothing_changed_behind, book_of_words, double, load,
    nth, prefix, row, signal, slow_misread, slow_readings, ways,
)


def told_of(words):
    return answered(load(book_of_words(words)), double())[1]


def misread(message, first, second):
    """The answer that this message is the first, and has these readings."""
    return [1] + row(message) + row(first) + row(second)


def chain(count):
    """Pieces of three signs, the words of the first, of each two neighbours and of the last: read in two ways."""
    pieces = [f"{first}{second}Z" for first in "ABCDEF" for second in "01234567"][:count]
    pairs = [one + other for one, other in zip(pieces, pieces[1:])]
    return pieces, [pieces[0]] + pairs + [pieces[-1]]


class NothingMisread(unittest.TestCase):
    def test_without_entries(self):
        self.assertEqual(answered(double(), load("A 1\nAA 2"), load(""), double())[::3], [[0], [0]])

    def test_one_entry(self):
        for word in ("A", "AA", "ABABAB", "111111"):
            self.assertEqual(told_of([word]), [0])

    def test_no_word_begins_with_another_one(self):
        for words in (["A", "B"], ["A", "BA", "BBA", "BBB"], ["AB", "B"], ["1", "A", "01", "0A"]):
            self.assertEqual(answered(load(book_of_words(words)), prefix(), double())[1:], [[1], [0]], words)

    def test_a_word_begins_with_another_one(self):
        for words in (["A", "AB"], ["A", "AB", "BB"], ["A1", "A"], ["A", "AB", "ABB", "ABBB"], ["A", "ABA", "BB"],
                      ["AB", "ABC", "CD", "DA"]):
            self.assertEqual(answered(load(book_of_words(words)), prefix(), double())[1:], [[0], [0]], words)

    def test_no_word_ends_with_another_one(self):
        # Read from the end such words are told apart at once, so they are never read in two ways.
        chance = random.Random(41)
        begun = 0
        for signs, count in (("A1", 20), ("AB1", 48)) * 20:
            words = []
            for time in range(400):
                word = "".join(chance.choice(signs) for place in range(chance.randint(2, 6)))
                if len(words) < count and not any(word.endswith(one) or one.endswith(word) for one in words):
                    words.append(word)
            told = answered(load(book_of_words(words)), prefix(), double())[1:]
            self.assertEqual(told[1], [0], words)
            begun += told[0] == [0]
        self.assertGreater(begun, 20)

    def test_forty_eight_entries(self):
        pieces, words = chain(47)
        self.assertEqual(len(words), 48)
        self.assertEqual(told_of(words[:20] + ["ZZZ"] + words[21:]), [0])


class Misread(unittest.TestCase):
    def test_the_example(self):
        self.assertEqual(
            answered(load("A 1\nB 2\nAB 3"), ways("AB"), double())[1:], [[2], [1, 2, 65, 66, 2, 1, 2, 1, 3]]
        )

    def test_the_shorter_message_first(self):
        self.assertEqual(told_of(["AA", "AAA", "ZZ", "Z"]), misread("ZZ", [2], [3, 3]))
        self.assertEqual(told_of(["AB", "ABC", "CX", "X", "Z", "ZY", "YZZZ"]), misread("ABCX", [0, 2], [1, 3]))

    def test_messages_of_one_length_that_differ_by_a_byte(self):
        for words in (["A", "AC", "C", "B", "AB"], ["AC", "AB", "C", "B", "A"]):
            places = {word: number for number, word in enumerate(words)}
            readings = sorted([[places["A"], places["B"]], [places["AB"]]])
            self.assertEqual(told_of(words), misread("AB", *readings))
        self.assertEqual(told_of(["CX", "C", "X", "BX", "B"]), misread("BX", [3], [4, 2]))
        self.assertEqual(told_of(["X", "Y", "Z", "AAX", "AAY", "AA", "AAZ"]), misread("AAX", [3], [5, 0]))

    def test_a_figure_against_a_letter(self):
        self.assertEqual(told_of(["A", "AA", "1", "11"]), misread("11", [2, 2], [3]))
        self.assertEqual(told_of(["AZ", "Z", "A9", "9", "A"]), misread("A9", [2], [4, 3]))
        self.assertEqual(told_of(["B", "BA", "A", "B0", "0"]), misread("B0", [0, 4], [3]))

    def test_an_entry_within_another_one(self):
        self.assertEqual(told_of(["ABCDEF", "AB", "C", "DEF"]), misread("ABCDEF", [0], [1, 2, 3]))
        self.assertEqual(told_of(["A", "AAAAAA"]), misread("AAAAAA", [0] * 6, [1]))
        self.assertEqual(told_of(["ABCDEF", "AB", "CD", "EFG", "G"]), misread("ABCDEFG", [0, 4], [1, 2, 3]))

    def test_the_order_of_the_readings_is_that_of_the_book(self):
        self.assertEqual(answered(load("AB 1\nA 0\nB 3"), double())[1], misread("AB", [1], [0, 3]))
        self.assertEqual(answered(load("B 0\nA 9\nAB 1"), double())[1], misread("AB", [9, 0], [1]))
        self.assertEqual(answered(load("AB 9\nB 0\nA 1"), double())[1], misread("AB", [9], [1, 0]))

    def test_the_first_two_of_three_readings(self):
        for words in itertools.permutations(["A", "BC", "AB", "C", "ABC"]):
            readings = slow_readings(words, "ABC")
            self.assertEqual(len(readings), 3)
            self.assertEqual(told_of(words), misread("ABC", readings[0], readings[1]))

    def test_readings_that_meet_after_many_words(self):
        letters = "ABCDEFGHIJKLMNOPQRSTUVWXYZ0123456789"
        pairs = [one + other for one, other in zip(letters, letters[1:])]
        words = ["A"] + pairs + ["9"]
        self.assertEqual(told_of(words), misread(letters, [0] + list(range(2, 36, 2)) + [36], list(range(1, 36, 2))))
        self.assertEqual(told_of(words[:-1]), [0])
        self.assertEqual(told_of(words[1:]), [0])

    def test_a_message_of_more_than_sixty_signs(self):
        for count in (21, 22, 46, 47):
            pieces, words = chain(count)
            last = [count] if count % 2 else []
            other = [] if count % 2 else [count]
            first = [0] + list(range(2, count, 2)) + other
            second = list(range(1, count, 2)) + last
            message = "".join(pieces)
            self.assertEqual(len(message), 3 * count)
            self.assertEqual(told_of(words), misread(message, first, second))
            turned = [count - number for number in first], [count - number for number in second]
            readings = sorted(turned)
            self.assertEqual(told_of(words[::-1]), misread(message, *readings))

    def test_just_sixty_signs_are_found_by_the_other_calls_too(self):
        pieces, words = chain(20)
        message = "".join(pieces)
        told = answered(load(book_of_words(words)), double(), ways(message), nth(0, message), nth(1, message))[1:]
        self.assertEqual(told[0], [1] + row(message) + told[2] + told[3])
        self.assertEqual(told[1], [2])

    def test_a_shorter_way_to_the_same_rest_counts(self):
        # Both AX and BBX leave an X too much; the longer words stand first in the book.
        self.assertEqual(told_of(["BBX", "BB", "XC", "C", "AX", "A"]), misread("AXC", [4, 3], [5, 2]))
        self.assertEqual(told_of(["CX", "C", "XD", "D", "BX", "B"]), misread("BXD", [4, 3], [5, 2]))

    def test_a_lesser_way_of_more_words_to_the_same_rest_counts(self):
        # ZZZX leaves an X too much at once, AYYX only behind a word that makes no message longer.
        self.assertEqual(
            told_of(["ZZZX", "ZZZ", "AYYX", "A", "YY", "XC", "C"]), misread("AYYXC", [2, 6], [3, 4, 5])
        )

    def test_the_book_of_now_counts(self):
        told = answered(load("A 1\nAA 2"), double(), load("A 1\nB 2"), double(), load("A 1\nAA 2\nB"), double(),
                        load("BB 1\nB 2"), double())
        self.assertEqual(told[1::2], [misread("AA", [1, 1], [2]), [0], [0], misread("BB", [1], [2, 2])])

    def test_a_hundred_calls(self):
        pieces, words = chain(47)
        told = answered(load(book_of_words(words)), *[double()] * 99)
        first = [0] + list(range(2, 47, 2))
        second = list(range(1, 47, 2)) + [47]
        self.assertEqual(told[1:], [misread("".join(pieces), first, second)] * 99)

    def test_a_hundred_calls_where_nothing_can_be_misread(self):
        words = ["".join(one) for one in itertools.product("ABC", repeat=3)] + ["AA" + end + "C2" for end in "ABC"]
        self.assertEqual(answered(load(book_of_words(words)), *[double()] * 99)[1:], [[0]] * 99)

    def test_asking_changes_nothing(self):
        assert_nothing_changed(self, double())
        assert_nothing_changed_behind(self, [load("A 1\nB 2\nAB 3")], double(), misread("AB", [1, 2], [3]))
        assert_nothing_changed_behind(self, [load("A 1\nAB 2")], double(), [0])


class AgainstSlowSearch(unittest.TestCase):
    def books(self, signs, longest_word, count, seed):
        chance = random.Random(seed)
        lengths = range(1, longest_word + 1)
        words = ["".join(one) for length in lengths for one in itertools.product(signs, repeat=length)]
        return [chance.sample(words, chance.randint(1, 4)) for time in range(count)]

    def check(self, words, longest):
        """What double answers, held against all messages of so many signs at most."""
        answer = told_of(words)
        message = slow_misread(words, longest)
        if message is not None:
            self.assertEqual(answer, misread(message, *slow_readings(words, message)[:2]), words)
        elif answer != [0]:
            self.assertGreater(answer[1], longest, words)
            found = "".join(chr(sign) for sign in answer[2:2 + answer[1]])
            self.assertEqual(answer, misread(found, *slow_readings(words, found)[:2]), words)
        return message is not None

    def test_small_books_of_two_signs(self):
        found = [self.check(words, 8) for words in self.books("A1", 3, 250, 19)]
        self.assertGreater(found.count(True), 50)
        self.assertGreater(found.count(False), 50)

    def test_small_books_of_longer_words(self):
        found = [self.check(words, 9) for words in self.books("AB", 4, 120, 23)]
        self.assertGreater(found.count(True), 10)

    def test_small_books_of_three_signs(self):
        found = [self.check(words, 6) for words in self.books("0AZ", 2, 120, 29)]
        self.assertGreater(found.count(True), 20)


class SecondPromise(unittest.TestCase):
    def test_whatever_is_signalled_has_one_reading(self):
        chance = random.Random(31)
        words = ["".join(one) for length in (1, 2, 3) for one in itertools.product("A1", repeat=length)]
        sure = 0
        for time in range(150):
            book = chance.sample(words, chance.randint(2, 4))
            messages = ["".join(one) for length in range(5) for one in itertools.product(book, repeat=length)]
            if told_of(book) == [0]:
                sure += 1
                self.assertEqual(len(set(messages)), len(messages), book)
        self.assertGreater(sure, 20)

    def test_signal_tells_one_reading(self):
        chance = random.Random(37)
        for words in (["A", "AB", "BB"], ["AB", "ABC", "CD", "DA"], ["1", "A", "01", "0A"], ["A", "ABB", "BBB1"]):
            signalled = [[chance.randrange(len(words)) for place in range(12)] for time in range(60)]
            told = answered_in_lines([load(book_of_words(words))], [double()] + [signal(one) for one in signalled])
            self.assertEqual(told[0], [0], words)
            self.assertEqual([answer[0] for answer in told[1:]], [1] * 60, words)


if __name__ == "__main__":
    unittest.main()
