"""What the calls work on, the sets of flags and the book, and what each call answers."""

from flaghoistsyard.book import WrongLine, book_of, signs_of, written
from flaghoistsyard.hoisting import MOST_FLAGS, first_hoist, hoists_of, is_hoist, signs_said
from flaghoistsyard.readings import first_misread, is_prefix_free, nth_reading, reading_counts
from flaghoistsyard.signs import all_bytes, all_signs

MOST_SETS = 3
LONGEST_SIGNAL = 60
WRONG_NUMBER = -1
NO_HOIST = -2
NOTHING_SAYS_IT = -3
NO_READING = -4
NO_ENTRY = -5
TOO_LONG = -6
LINE_REFUSAL = -1000


def row(numbers):
    return [len(numbers)] + numbers


# Each method gives back the numbers that its call answers, a refusal as the one number of it.
class Yard:
    def __init__(self):
        self.set_count = 1
        self.book = []

    def use_sets(self, count):
        if not 1 <= count <= MOST_SETS:
            return [WRONG_NUMBER]
        self.set_count = count
        return [0]

    def read(self, flags):
        if not all_bytes(flags):
            return [WRONG_NUMBER]
        if not is_hoist(flags, self.set_count):
            return [NO_HOIST]
        said = signs_said(flags)
        if said is None:
            return [NOTHING_SAYS_IT]
        return row(said)

    def make(self, signs):
        if not all_signs(signs) or not 1 <= len(signs) <= MOST_FLAGS:
            return [WRONG_NUMBER]
        hoist = first_hoist(signs, self.set_count)
        if hoist is None:
            return [NOTHING_SAYS_IT]
        return row(hoist)

    def hoists(self, message):
        if not all_signs(message):
            return [WRONG_NUMBER]
        hoists = hoists_of(message, self.set_count)
        answer = [len(hoists)]
        for hoist in hoists:
            answer.extend(row(hoist))
        return answer

    def load(self, text):
        if not all_bytes(text):
            return [WRONG_NUMBER]
        try:
            book = book_of(text)
        except WrongLine as wrong:
            return [LINE_REFUSAL - wrong.line_number]
        self.book = book
        return [len(book)]

    def text(self):
        return row(written(self.book))

    def ways(self, message):
        if not all_signs(message):
            return [WRONG_NUMBER]
        return [reading_counts(self.book, message)[0]]

    def nth(self, k, message):
        if not all_signs(message):
            return [WRONG_NUMBER]
        reading = nth_reading(self.book, message, k)
        if reading is None:
            return [NO_READING]
        return row(reading)

    def say(self, numbers):
        signs = signs_of(self.book, numbers)
        if signs is None:
            return [NO_ENTRY]
        return row(signs)

    def double(self):
        message = first_misread(self.book)
        if message is None:
            return [0]
        first = nth_reading(self.book, message, 0)
        second = nth_reading(self.book, message, 1)
        return [1] + row(list(message)) + row(first) + row(second)

    def prefix(self):
        return [1 if is_prefix_free(self.book) else 0]

    def meaning(self, number):
        return self.say([number])

    def signal(self, numbers):
        message = signs_of(self.book, numbers)
        if message is None:
            return [NO_ENTRY]
        if len(message) > LONGEST_SIGNAL:
            return [TOO_LONG]
        return self.ways(message) + self.hoists(message)

    def entries(self):
        return [self.set_count] + row([entry[1] for entry in self.book])
