"""The code book: read from a text, written, and the signs that its numbers stand for.

A book is a list of entries in their order; an entry is a tuple of its word (a tuple of signs) and its number.
"""

from flaghoistsyard.signs import LEAST_FIGURE, all_signs, is_figure

LINE_END = 10
BLANK = 32
REMARK = 35
LEAST_IN_LINE = 32
GREATEST_IN_LINE = 126
LONGEST_WORD = 6
MOST_DIGITS = 4
MOST_ENTRIES = 48


class WrongLine(Exception):
    def __init__(self, line_number):
        Exception.__init__(self, line_number)
        self.line_number = line_number


def cut_at(numbers, cutter):
    pieces = []
    piece = []
    for number in numbers:
        if number == cutter:
            pieces.append(piece)
            piece = []
        else:
            piece.append(number)
    pieces.append(piece)
    return pieces


def words_of(line):
    told = cut_at(line, REMARK)[0]
    return [word for word in cut_at(told, BLANK) if word]


# None where the word is not a number from 0 to 9999 without a zero in front.
def number_of(word):
    if len(word) > MOST_DIGITS or not all([is_figure(byte) for byte in word]):
        return None
    if len(word) > 1 and word[0] == LEAST_FIGURE:
        return None
    number = 0
    for byte in word:
        number = number * 10 + byte - LEAST_FIGURE
    return number


# None where the words are not an entry.
def entry_of(words):
    if len(words) != 2:
        return None
    if len(words[0]) > LONGEST_WORD or not all_signs(words[0]):
        return None
    number = number_of(words[1])
    if number is None:
        return None
    return (tuple(words[0]), number)


def can_be_added(book, entry):
    if entry is None or len(book) == MOST_ENTRIES:
        return False
    return not any([entry[0] == earlier[0] or entry[1] == earlier[1] for earlier in book])


# Where nothing stands behind the last line end no line stands there; it's walked all the same, as nothing is told.
def book_of(text):
    book = []
    for line_number, line in enumerate(cut_at(text, LINE_END), start=1):
        if not all([LEAST_IN_LINE <= byte <= GREATEST_IN_LINE for byte in line]):
            raise WrongLine(line_number)
        words = words_of(line)
        if words:
            entry = entry_of(words)
            if not can_be_added(book, entry):
                raise WrongLine(line_number)
            book.append(entry)
    return book


def written(book):
    text = []
    for entry in book:
        text.extend(entry[0])
        text.append(BLANK)
        text.extend([ord(digit) for digit in str(entry[1])])
        text.append(LINE_END)
    return text


# None where one of the numbers is no entry's.
def signs_of(book, numbers):
    words = {}
    for word, number in book:
        words[number] = word
    signs = []
    for number in numbers:
        if number not in words:
            return None
        signs.extend(words[number])
    return signs
