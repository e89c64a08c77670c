"""Calls written shortly, their answers told apart, and slow readings of the document to compare with."""

import itertools

from flaghoistsyard.signals import answers

LEAST = -10 ** 18
GREATEST = 10 ** 18


def codes(text):
    return [ord(letter) for letter in text] if isinstance(text, str) else list(text)


def with_row(call, numbers):
    return [call, len(codes(numbers))] + codes(numbers)


def sets(n):
    return [0, n]


def read(flags):
    return with_row(1, flags)


def make(signs):
    return with_row(2, signs)


def hoists(message):
    return with_row(3, message)


def load(text):
    return with_row(4, text)


def text():
    return [5]


def ways(message):
    return with_row(6, message)


def nth(k, message):
    return [7, k] + with_row(7, message)[1:]


def say(numbers):
    return with_row(8, numbers)


def double():
    return [9]


def prefix():
    return [10]


def meaning(n):
    return [11, n]


def signal(numbers):
    return with_row(12, numbers)


def entries():
    return [13]


def joined(calls):
    return [number for call in calls for number in call]


def told_apart(numbers):
    """The answers of the calls, each as the list of its numbers."""
    apart = []
    place = 0
    while place < len(numbers):
        end = place + 1 + numbers[place]
        if numbers[place] < 1 or end > len(numbers):
            raise AssertionError(f"answers of a wrong form: {numbers}")
        apart.append(numbers[place + 1:end])
        place = end
    return apart


def answered(*calls):
    apart = told_apart(answers(joined(calls)))
    if len(apart) != len(calls):
        raise AssertionError(f"{len(calls)} calls, {len(apart)} answers")
    return apart


def answered_in_lines(before, calls):
    """The answers of any number of calls, each line of at most 100 begun with the calls before."""
    told = []
    room = 100 - len(before)
    for start in range(0, len(calls), room):
        told += answered(*before, *calls[start:start + room])[len(before):]
    return told


def row(numbers):
    """A row as it is answered."""
    return [len(codes(numbers))] + codes(numbers)


def rows(*several):
    """Several rows as they are answered, with how many there are."""
    return [len(several)] + joined([row(one) for one in several])


def hoists_told(answer):
    """The hoists that stand in an answer of the call hoists."""
    told = []
    place = 1
    while place < len(answer):
        end = place + 1 + answer[place]
        told.append(answer[place + 1:end])
        place = end
    if len(told) != answer[0]:
        raise AssertionError(f"not as many hoists as told: {answer}")
    return told


def slow_said(flags):
    """What a hoist of fit flags says, or None."""
    said = ""
    for flag in flags:
        if flag not in "xyz":
            said += flag
            continue
        if said == "":
            return None
        if said[-1].isdigit():
            choice = "".join(sign for sign in said if sign.isdigit())
        else:
            choice = "".join(sign for sign in said if not sign.isdigit())
        if len(choice) <= "xyz".index(flag):
            return None
        said += choice["xyz".index(flag)]
    return said


def slow_order(hoist):
    """Of hoists that say the same the first has the least of these."""
    return ["xyz".find(flag) for flag in hoist]


def slow_hoists(alphabet, longest, set_count):
    """All that hoists of these flags say, each with the first hoist that says it."""
    first = {}
    for length in range(1, longest + 1):
        for flags in itertools.product(alphabet, repeat=length):
            if max(flags.count(flag) for flag in flags) > set_count:
                continue
            said = slow_said(flags)
            if said is None:
                continue
            hoist = "".join(flags)
            if said not in first or slow_order(hoist) < slow_order(first[said]):
                first[said] = hoist
    return first


def slow_parts(message, first):
    """The parts of a message, from all the ways to cut it."""
    best = None
    for cuts in itertools.product((False, True), repeat=max(0, len(message) - 1)):
        parts = [message[:1]]
        for sign, cut in zip(message[1:], cuts):
            if cut:
                parts.append(sign)
            else:
                parts[-1] += sign
        if all(part in first for part in parts):
            order = (len(parts), [-len(part) for part in parts])
            if best is None or order < best[0]:
                best = (order, parts)
    return best[1]


def book_of_words(words):
    """A book of the words, numbered from 0 on."""
    return "".join(f"{word} {number}\n" for number, word in enumerate(words))


def slow_readings(words, message):
    """All readings of the message by such a book, in their order."""
    if message == "":
        return [[]]
    return [
        [number] + rest
        for number, word in enumerate(words) if message.startswith(word)
        for rest in slow_readings(words, message[len(word):])
    ]


def slow_misread(words, longest):
    """The first message that can be misread, of all that have so many signs at most, or None."""
    signs = sorted(set("".join(words)))
    for length in range(longest + 1):
        for one in itertools.product(signs, repeat=length):
            if len(slow_readings(words, "".join(one))) > 1:
                return "".join(one)
    return None


# Calls that tell whether there are 1, 2 or 3 sets and what the book is, and states to ask them in.
PROBES = [text(), entries(), read("AA"), read("AAA"), make("A1A1A"), make("A1A1A1A"), ways("AB1")]
STATES = [
    ([], [row(""), [1, 0], [-2], [-2], [-3], [-3], [0]]),
    (
        [sets(2), load("B1 7\nAB 20\nA 0\n1 5")],
        [row("B1 7\nAB 20\nA 0\n1 5\n"), [2, 4, 7, 20, 0, 5], row("AA"), [-2], [-3], [-3], [2]],
    ),
    (
        [sets(3), load("AB1 9999 # one\n")],
        [row("AB1 9999\n"), [3, 1, 9999], row("AA"), row("AAA"), row("A1A1A"), [-3], [1]],
    ),
]


def assert_nothing_changed_behind(case, before, call, *told):
    """The call answers as told, if that is said, and the probes behind it answer as those ahead of it."""
    got = answered(*before, *PROBES, call, *PROBES, call)[len(before):]
    probed = got[:len(PROBES)]
    case.assertEqual(got[len(PROBES) + 1:-1], probed)
    case.assertEqual(got[len(PROBES)], got[-1])
    if told:
        case.assertEqual(got[-1], told[0])
    return probed


def assert_nothing_changed(case, call, *told):
    """The same in each of the states."""
    for before, probed in STATES:
        case.assertEqual(assert_nothing_changed_behind(case, before, call, *told), probed)
