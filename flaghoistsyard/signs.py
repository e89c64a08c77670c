"""What a number stands for: a byte, a letter, a figure, a sign."""

LEAST_LETTER = 65
GREATEST_LETTER = 90
LEAST_FIGURE = 48
GREATEST_FIGURE = 57
GREATEST_BYTE = 255


def is_letter(number):
    return LEAST_LETTER <= number <= GREATEST_LETTER


def is_figure(number):
    return LEAST_FIGURE <= number <= GREATEST_FIGURE


def is_sign(number):
    return is_letter(number) or is_figure(number)


def all_signs(numbers):
    return all([is_sign(number) for number in numbers])


def all_bytes(numbers):
    return all([0 <= number <= GREATEST_BYTE for number in numbers])
