"""What the calls work on, the sets of flags and the book, and what each call answers."""

from flaghoistsyard.book import WrongLine, book_of, reading_counts, written
from flaghoistsyard.hoisting import MOST_FLAGS, first_hoist, hoists_of, is_hoist, signs_said
from flaghoistsyard.signs import all_bytes, all_signs

MOST_SETS = 3
WRONG_NUMBER = -1
NO_HOIST = -2
NOTHING_SAYS_IT = -3
LINE_REFUSAL = -1000


def row(numbers):
    return [len(numbers)] + numbers


# Each method gives back the numbers that its call answers, a refusal as the one number of it.
class Yard:
    def __init__(self):
        self.set_count = 1
        self.book = []

    def use_sets(self, count):
        if not 1 <= count <= MOST_SETS:
            return [WRONG_NUMBER]
        self.set_count = count
        return [0]

    def read(self, flags):
        if not all_bytes(flags):
            return [WRONG_NUMBER]
        if not is_hoist(flags, self.set_count):
            return [NO_HOIST]
        said = signs_said(flags)
        if said is None:
            return [NOTHING_SAYS_IT]
        return row(said)

    def make(self, signs):
        if not all_signs(signs) or not 1 <= len(signs) <= MOST_FLAGS:
            return [WRONG_NUMBER]
        hoist = first_hoist(signs, self.set_count)
        if hoist is None:
            return [NOTHING_SAYS_IT]
        return row(hoist)

    def hoists(self, message):
        if not all_signs(message):
            return [WRONG_NUMBER]
        hoists = hoists_of(message, self.set_count)
        answer = [len(hoists)]
        for hoist in hoists:
            answer.extend(row(hoist))
        return answer

    def load(self, text):
        if not all_bytes(text):
            return [WRONG_NUMBER]
        try:
            book = book_of(text)
        except WrongLine as wrong:
            return [LINE_REFUSAL - wrong.line_number]
        self.book = book
        return [len(book)]

    def text(self):
        return row(written(self.book))

    def ways(self, message):
        if not all_signs(message):
            return [WRONG_NUMBER]
        return [reading_counts(self.book, message)[0]]
