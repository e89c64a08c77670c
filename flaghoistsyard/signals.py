"""The calls as they stand in one list, and the list of what they answer."""

from flaghoistsyard.yard import Yard

SETS = 0
READ = 1
MAKE = 2
HOISTS = 3
LOAD = 4
TEXT = 5
WAYS = 6
NTH = 7
SAY = 8
DOUBLE = 9
PREFIX = 10
MEANING = 11
SIGNAL = 12
ENTRIES = 13


# Goes through the list of calls number by number; a row is given back as a copy.
class CallReader:
    def __init__(self, calls):
        self.calls = calls
        self.place = 0

    def has_more(self):
        return self.place < len(self.calls)

    def number(self):
        number = self.calls[self.place]
        self.place += 1
        return number

    def row(self):
        start = self.place + 1
        self.place = start + self.calls[self.place]
        return self.calls[start:self.place]


def answer(yard, reader):
    call = reader.number()
    if call == SETS:
        return yard.use_sets(reader.number())
    if call == READ:
        return yard.read(reader.row())
    if call == MAKE:
        return yard.make(reader.row())
    if call == HOISTS:
        return yard.hoists(reader.row())
    if call == LOAD:
        return yard.load(reader.row())
    if call == TEXT:
        return yard.text()
    if call == WAYS:
        return yard.ways(reader.row())
    if call == NTH:
        k = reader.number()
        return yard.nth(k, reader.row())
    if call == SAY:
        return yard.say(reader.row())
    if call == DOUBLE:
        return yard.double()
    if call == PREFIX:
        return yard.prefix()
    if call == MEANING:
        return yard.meaning(reader.number())
    if call == SIGNAL:
        return yard.signal(reader.row())
    if call == ENTRIES:
        return yard.entries()
    raise ValueError("no such call")


def answers(calls):
    yard = Yard()
    reader = CallReader(calls)
    told = []
    while reader.has_more():
        numbers = answer(yard, reader)
        told.append(len(numbers))
        told.extend(numbers)
    return told
