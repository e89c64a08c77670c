"""Hoists: what they say, by which of them signs are hoisted, how a message is parted."""

from flaghoistsyard.signs import is_letter, is_sign

MOST_FLAGS = 7
FIRST_SUBSTITUTE = 120
SUBSTITUTE_COUNT = 3


def is_substitute(number):
    return FIRST_SUBSTITUTE <= number < FIRST_SUBSTITUTE + SUBSTITUTE_COUNT


def is_hoist(flags, sets):
    if not 1 <= len(flags) <= MOST_FLAGS:
        return False
    if not all([is_sign(flag) or is_substitute(flag) for flag in flags]):
        return False
    return all([flags.count(flag) <= sets for flag in flags])


# None where the substitute says nothing. The first substitute has the rank 0.
def repeated_sign(said, rank):
    if not said:
        return None
    same_class = [sign for sign in said if is_letter(sign) == is_letter(said[-1])]
    if rank >= len(same_class):
        return None
    return same_class[rank]


# None where the hoist says nothing.
def signs_said(hoist):
    said = []
    for flag in hoist:
        sign = flag
        if is_substitute(flag):
            sign = repeated_sign(said, flag - FIRST_SUBSTITUTE)
        if sign is None:
            return None
        said.append(sign)
    return said


# The sign's own flag stands first, then the substitutes by their number: so one hoist is ahead of another.
def flags_that_say(sign, said):
    flags = [sign]
    for rank in range(SUBSTITUTE_COUNT):
        if repeated_sign(said, rank) == sign:
            flags.append(FIRST_SUBSTITUTE + rank)
    return flags


# Every flag says one sign, so a place of the hoist is a place of the signs, and this goes no deeper than 7.
# The choices of a place are tried in their order, so the hoist that is found is the first of all.
def completed(choices, sets, hoist):
    if len(hoist) == len(choices):
        return hoist
    for flag in choices[len(hoist)]:
        if hoist.count(flag) < sets:
            whole = completed(choices, sets, hoist + [flag])
            if whole is not None:
                return whole
    return None


# None where no hoist says the signs. There are 1 to 7 of them.
def first_hoist(signs, sets):
    choices = [flags_that_say(signs[place], signs[:place]) for place in range(len(signs))]
    return completed(choices, sets, [])


# A hoist without its lowest flag says the same signs but the last. So whatever is shorter than the longest
# part can be a part as well, and one sign always can.
def longest_part(message, sets):
    length = min(MOST_FLAGS, len(message))
    while first_hoist(message[:length], sets) is None:
        length -= 1
    return length


# The longest first part may leave a rest that needs more parts than another rest does, so from the end on it is
# counted how few parts each rest needs. Of equally few the longest part is kept.
def part_lengths(message, sets):
    fewest = [0] * (len(message) + 1)
    lengths = [0] * len(message)
    for start in range(len(message) - 1, -1, -1):
        best = longest_part(message[start:], sets)
        for length in range(best - 1, 0, -1):
            if fewest[start + length] < fewest[start + best]:
                best = length
        fewest[start] = fewest[start + best] + 1
        lengths[start] = best
    return lengths


def hoists_of(message, sets):
    lengths = part_lengths(message, sets)
    hoists = []
    start = 0
    while start < len(message):
        end = start + lengths[start]
        hoists.append(first_hoist(message[start:end], sets))
        start = end
    return hoists
