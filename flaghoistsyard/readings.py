"""Readings of messages by a book: how many, which, and the first message that has two."""

from flaghoistsyard.book import LONGEST_WORD


def words_of_book(book):
    words = {}
    for entry in book:
        words[entry[0]] = True
    return words


# How many readings there are of what stands from each place of the message on. No two entries have one word,
# so at a place each length of a word is that of one entry at most.
def reading_counts(book, message):
    words = words_of_book(book)
    counts = [0] * len(message) + [1]
    for start in range(len(message) - 1, -1, -1):
        for end in range(start + 1, min(start + LONGEST_WORD, len(message)) + 1):
            if tuple(message[start:end]) in words:
                counts[start] += counts[end]
    return counts


# The entries whose words stand at the place, in the book's order, each as its number and its word's end.
def entries_at(book, message, start):
    fitting = []
    for word, number in book:
        end = start + len(word)
        if tuple(message[start:end]) == word:
            fitting.append((number, end))
    return fitting


# None where there is no such reading. Readings that go on with one entry stand side by side, so those of the entries
# ahead of the right one are passed over by their count: there may be too many to go through.
def nth_reading(book, message, k):
    counts = reading_counts(book, message)
    if not 0 <= k < counts[0]:
        return None
    numbers = []
    start = 0
    while start < len(message):
        for number, end in entries_at(book, message, start):
            if k < counts[end]:
                numbers.append(number)
                start = end
                break
            k -= counts[end]
    return numbers


# For each beginning that words go on from: what stands behind it in them.
def tails_by_beginning(words):
    tails = {}
    for word in words:
        for length in range(1, len(word)):
            tails.setdefault(word[:length], []).append(word[length:])
    return tails


def is_prefix_free(book):
    words = words_of_book(book)
    tails = tails_by_beginning(words)
    return not any([word in tails for word in words])


# Keeps for each overhang the first message that leaves it. The length stands ahead of the message as it counts first.
def offer(waiting, overhang, message):
    order = (len(message), message)
    if overhang not in waiting or order < waiting[overhang]:
        waiting[overhang] = order


# The overhangs that one entry more leaves, each with its message. The entry is put behind the shorter reading: it ends
# within the overhang, so the message stays, or it goes on behind it.
def grown(words, tails, overhang, message):
    later = [(tail, message + tail) for tail in tails.get(overhang, [])]
    for length in range(1, len(overhang) + 1):
        if overhang[:length] in words:
            later.append((overhang[length:], message))
    return later


# None where no message can be misread. Two readings grow side by side, begun with two entries; the overhang is what the
# longer one says more, and where it is empty both say the message. How they go on hangs on the overhang alone, and what
# goes on from a later message is later, so of each overhang the first message is enough: there are few overhangs.
def first_misread(book):
    words = words_of_book(book)
    tails = tails_by_beginning(words)
    waiting = {}
    for word in words:
        for tail in tails.get(word, []):
            offer(waiting, tail, word + tail)
    settled = {}
    while waiting:
        overhang = min(waiting, key=lambda one: waiting[one])
        message = waiting.pop(overhang)[1]
        if not overhang:
            return message
        settled[overhang] = True
        for later, longer in grown(words, tails, overhang, message):
            if later not in settled:
                offer(waiting, later, longer)
    return None
